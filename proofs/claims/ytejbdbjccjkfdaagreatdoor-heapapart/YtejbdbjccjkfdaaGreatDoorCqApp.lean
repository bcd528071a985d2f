/-
  The document's map of pages in memory; lists of numbers that come in.
  The document's map of pages: what each of its calls answers and leaves.
  The document's configurations: which may be; a new map.
  Pages by their colours, a shelf a colour: how the shelves' answers make up the map's. Nothing of the program is named here.
  A copy of a list: 'append([]int{}, l...)', of any length.
-/
import Derived.Test.YtejbdbjccjkfdaaGreatDoorRows
import Derived.Test.YtejbdbjccjkfdaaGreatDoorHpPages
import Derived.Deep.RegionHeld
import Derived.Deep.QuietTactic
import Derived.BigQuiet
import Derived.BigRegion
import Derived.Laws.OwnMore
import Derived.Test.YtejbdbjccjkfdaaGreatDoorSfBits
import Derived.BigFrame
namespace Go.Proofs.YtejbdbjccjkfdaaGreatDoor.Cq
open Go.RowKit

/-- Numbers that lie where a slice says. -/
def NumsAt (w : World) (ad : Option Addr) (l : List Int) : Prop := ∀ i (h : i < l.length), ∃ b off, ad = some ⟨b, off, none⟩ ∧ b < w.heap.size ∧ w.cell? ⟨b, off + i, none⟩ = some (.int .i64 l[i])
theorem NumsAt.fr {w w' : World} {ad : Option Addr} {l : List Int} (h : NumsAt w ad l) (hf : Fr (fun _ => False) w w') : NumsAt w' ad l := fun i hi => by
  obtain ⟨b, off, h1, h2, h3⟩ := h i hi
  exact ⟨b, off, h1, by have := hf.size; omega, (World.cell?_of_block (hf.block b h2 (fun h => h))).trans h3⟩
theorem frOf {w w' : World} (f : ∃ m, w' = w.drewN m) : Fr (fun _ => False) w w' := by obtain ⟨m, rfl⟩ := f; exact (Fr.refl _ w).drewN m
def bl (l : List Bool) : List Value := l.map Value.bool
/-- In w there lies a map of the document's at block r: its Booleans lie in block t. -/
structure Rf (w : World) (r t : Nat) (k : Nat) (has : List Bool) : Prop where
  st : w.heap[r]? = some (.cells #[.int .i64 (has.length : Int), .int .i64 (k : Int), .slice (some ⟨t, 0, none⟩) has.length has.length] 153 (0, 0))
  row : w.heap[t]? = some (.cells (bl has).toArray 4 (0, 0))
  ne : r ≠ t
  le : has.length ≤ 4096
  k0 : 0 < k
  k1 : k ≤ 32
section
variable {w w' : World} {r t k : Nat} {has : List Bool}
theorem Rf.c0 (h : Rf w r t k has) : w.cell? ⟨r, 0, none⟩ = some (.int .i64 (has.length : Int)) := by simp [World.cell?, h.st]
theorem Rf.c1 (h : Rf w r t k has) : w.cell? ⟨r, 1, none⟩ = some (.int .i64 (k : Int)) := by simp [World.cell?, h.st]
theorem Rf.c2 (h : Rf w r t k has) : w.cell? ⟨r, 2, none⟩ = some (.slice (some ⟨t, 0, none⟩) has.length has.length) := by simp [World.cell?, h.st]
theorem Rf.ltr (h : Rf w r t k has) : r < w.heap.size := (Array.getElem?_eq_some_iff.1 h.st).1
theorem Rf.ltt (h : Rf w r t k has) : t < w.heap.size := (Array.getElem?_eq_some_iff.1 h.row).1
theorem Rf.carry {S : Nat → Prop} (h : Rf w r t k has) (hf : Fr S w w') (h1 : ¬ S r) (h2 : ¬ S t) : Rf w' r t k has :=
  ⟨by rw [hf.block r h.ltr h1]; exact h.st, by rw [hf.block t h.ltt h2]; exact h.row, h.ne, h.le, h.k0, h.k1⟩
theorem Rf.kept (h : Rf w r t k has) (hf : Fr (fun _ => False) w w') : Rf w' r t k has := h.carry hf id id
theorem Rf.drewN (h : Rf w r t k has) (m : Nat) : Rf (w.drewN m) r t k has := h.kept ((Fr.refl _ w).drewN m)
theorem Rf.set (h : Rf w r t k has) (j : Nat) (b : Bool) : Rf (w.setCell ⟨t, j, none⟩ (.bool b)) r t k (has.set j b) := by
  refine ⟨?_, ?_, h.ne, by simpa using h.le, h.k0, h.k1⟩
  · rw [Below.heap_setCell w _ _ r h.ne]; simpa using h.st
  · rw [heap_setCell_same w t j _ _ _ h.row]
    congr 2
    apply Array.ext'
    simp [bl, List.map_set]
theorem Fr.one (w : World) (t j : Nat) (b : Bool) : Fr (fun i => i = t) w (w.setCell ⟨t, j, none⟩ (.bool b)) := Fr.setCell (S := fun i => i = t) (p := ⟨t, j, none⟩) (Fr.refl _ _) rfl _
end
end Go.Proofs.YtejbdbjccjkfdaaGreatDoor.Cq

namespace Go.Proofs.YtejbdbjccjkfdaaGreatDoor.Cq
open Go.RowKit

section
variable {w : World} {r t k : Nat} {has : List Bool} {ad : Option Addr} {l : List Int}
end
end Go.Proofs.YtejbdbjccjkfdaaGreatDoor.Cq

namespace Go.Proofs.YtejbdbjccjkfdaaGreatDoor.Cq
open Go.RowKit

/-- Two numbers of a configuration in memory. -/
structure Cf (w : World) (B : Nat) (n k : Int) : Prop where
  heap : w.heap[B]? = some (.cells #[.int .i64 n, .int .i64 k] 23 (0, 0))
section
variable {w w' : World} {B : Nat} {n k : Int}
theorem Cf.new (w : World) (n k : Int) : Cf (w.alloc (.cells #[.int .i64 n, .int .i64 k] 23)) w.heap.size n k := ⟨heap_alloc_new w _⟩
theorem Cf.lt (h : Cf w B n k) : B < w.heap.size := (Array.getElem?_eq_some_iff.1 h.heap).1
theorem Cf.carry {S : Nat → Prop} (h : Cf w B n k) (f : Fr S w w') (hn : ¬ S B) : Cf w' B n k := ⟨by rw [f.block B h.lt hn]; exact h.heap⟩
theorem Cf.kept (h : Cf w B n k) (f : Fr (fun _ => False) w w') : Cf w' B n k := h.carry f id
theorem Cf.alloc (h : Cf w B n k) (o : Obj) : Cf (w.alloc o) B n k := h.kept ((Fr.refl _ _).alloc o)
theorem Cf.c0 (h : Cf w B n k) : w.cell? ⟨B, 0, none⟩ = some (.int .i64 n) := by simp [World.cell?, h.heap]
theorem Cf.c1 (h : Cf w B n k) : w.cell? ⟨B, 1, none⟩ = some (.int .i64 k) := by simp [World.cell?, h.heap]
end
set_option maxRecDepth 20000 in
theorem e_right (n k : Int) (w : World) : Calls Tryz.prog 20 #[.agg #[.int .i64 n, .int .i64 k]] w fun e w' => e = .returned (.bool (decide (Cfg n k))) ∧ Fr (fun _ => False) w w' := by
  have A := Cf.new w n k
  have c0 := A.c0
  have c1 := A.c1
  clear A
  by_cases h1 : 1 ≤ k
  · by_cases h2 : k ≤ 32
    · by_cases h3 : 1 ≤ n
      · by_cases h4 : n ≤ 4096
        · have hmod : Int.tmod n k = n % k := Int.tmod_eq_emod_of_nonneg (by omega)
          have hz : (k == 0) = false := by simp; omega
          have m0 := Int.emod_nonneg n (show k ≠ 0 by omega)
          have m1 := Int.emod_lt_of_pos n (show 0 < k by omega)
          have hw0 : IntKind.i64.wrap (n % k) = n % k := by rw [IntKind.wrap_i64]; omega
          have he : Hid (decide (Cfg n k) = (n % k == 0)) := by
            show _ = _
            rw [Bool.eq_iff_iff]; simp [Cfg]; omega
          generalize decide (Cfg n k) = v at *
          generalize n % k = q at *
          go_enter Tryz.func20, Tryz.ntmps20
          go_wp2
          go_ret
          exact ⟨by rw [he.out]; simp, (Fr.refl _ _).alloc _⟩
        · have he : Hid (decide (Cfg n k) = false) := decide_eq_false fun h => h4 h.2.2.2.1
          generalize decide (Cfg n k) = v at *
          go_enter Tryz.func20, Tryz.ntmps20
          go_wp2
          go_ret
          exact ⟨by rw [he.out]; simp, (Fr.refl _ _).alloc _⟩
      · have he : Hid (decide (Cfg n k) = false) := decide_eq_false fun h => h3 h.2.2.1
        generalize decide (Cfg n k) = v at *
        go_enter Tryz.func20, Tryz.ntmps20
        go_wp2
        go_ret
        exact ⟨by rw [he.out]; simp, (Fr.refl _ _).alloc _⟩
    · have he : Hid (decide (Cfg n k) = false) := decide_eq_false fun h => h2 h.2.1
      generalize decide (Cfg n k) = v at *
      go_enter Tryz.func20, Tryz.ntmps20
      go_wp2
      go_ret
      exact ⟨by rw [he.out]; simp, (Fr.refl _ _).alloc _⟩
  · have he : Hid (decide (Cfg n k) = false) := decide_eq_false fun h => h1 h.1
    generalize decide (Cfg n k) = v at *
    go_enter Tryz.func20, Tryz.ntmps20
    go_wp2
    go_ret
    exact ⟨by rw [he.out]; simp, (Fr.refl _ _).alloc _⟩
theorem Tryz.infoBool : (Tryz.prog.info? 4).map (fun i => (i.zero, i.size, i.bytes)) = some (some (.bool false), 1, 1) := by kernel_rfl
theorem made_bools (n : Nat) : madeCells #[Value.bool false] n = (bl (List.replicate n false)).toArray := by
  apply Array.ext'
  rw [toList_madeCells_one]
  simp [bl]
set_option maxRecDepth 20000 in
theorem e_new {n k : Nat} (h : Cfg n k) (w : World) : Calls Tryz.prog 33 #[.agg #[.int .i64 (n : Int), .int .i64 (k : Int)]] w fun e w' => ∃ r t, e = .returned (.tuple #[.pointer (some ⟨r, 0, none⟩), .int .i64 0]) ∧ w.heap.size ≤ r ∧ w.heap.size ≤ t ∧ Rf w' r t k (List.replicate n false) ∧ Fr (fun _ => False) w w' := by
  have H1 := hid fun w => e_right n k w
  rw [decide_eq_true h] at H1
  have HA := hid (Cf.new w n k)
  have c0 := HA.out.c0
  have c1 := HA.out.c1
  unfold Cfg at h
  obtain ⟨i0, hi, hz0, hz1, hz2⟩ := info_parts Tryz.infoBool
  have hmk := fun w => run_make (P := Tryz.prog) w 151 4 i0 (.bool false) Tryz.underlying151 hi hz0 .i64 .i64 (n : Int) (n : Int) (by omega) (by omega) (by rw [hz2]; omega) (by omega)
  simp only [hz1, Int.toNat_natCast, Nat.mul_one, Value.cells, made_bools] at hmk
  clear hi hz0 hz1 hz2
  go_enter Tryz.func33, Tryz.ntmps33
  go_wp2_with fail
  refine (H1.out _).mono ?_
  rintro e w1 ⟨rfl, f1⟩
  have HF := hid (((Fr.refl (fun _ => False) w).alloc _).trans f1)
  have A1 := HA.out.kept f1
  clear f1 c0 c1
  have c0 := A1.c0
  have c1 := A1.c1
  clear A1 HA
  go_wp2
  go_region_held (fun w' => w'.cell? ⟨w.heap.size, 0, none⟩ = some (.int .i64 (n : Int)) ∧ w'.cell? ⟨w.heap.size, 1, none⟩ = some (.int .i64 (k : Int))) (go_keep) (fail)
  go_wp2
  go_ret2
  have hs := HF.out.size
  refine ⟨w1.heap.size + 1, w1.heap.size, by simp, by omega, hs, ⟨?_, ?_, by omega, by simp; omega, by omega, by omega⟩, ((HF.out.alloc _).alloc _).drew⟩
  · exact (heap_two w1 _ _).trans (by simp)
  · exact heap_one w1 _ _
end Go.Proofs.YtejbdbjccjkfdaaGreatDoor.Cq

namespace Go.Proofs.YtejbdbjccjkfdaaGreatDoor.Cq

/-- The pages of a colour, lowest first. -/
def colL (k m : Nat) (has : List Bool) (c : Nat) : List Bool := (List.range m).map fun j => has.getD (j * k + c) true
theorem colL_length (k m : Nat) (has : List Bool) (c : Nat) : (colL k m has c).length = m := by simp [colL]
theorem colL_get {k m : Nat} {has : List Bool} {c j : Nat} (h : j < (colL k m has c).length) : (colL k m has c)[j] = has.getD (j * k + c) true := by simp [colL]
theorem page_split {p k : Nat} (_hk : 0 < k) : p = p / k * k + p % k := by have := Nat.div_add_mod p k; rw [Nat.mul_comm] at this; exact this.symm
theorem page_of {c k j : Nat} (hc : c < k) : (j * k + c) % k = c ∧ (j * k + c) / k = j := by
  rw [Nat.add_comm, Nat.mul_comm]
  exact ⟨by rw [Nat.add_mul_mod_self_left, Nat.mod_eq_of_lt hc], by rw [Nat.add_mul_div_left _ _ (by omega), Nat.div_eq_of_lt hc, Nat.zero_add]⟩
theorem page_lt {c k j m : Nat} (hc : c < k) (hj : j < m) : j * k + c < m * k := by
  have h : (j + 1) * k ≤ m * k := Nat.mul_le_mul_right k hj
  rw [Nat.add_mul] at h; omega
theorem row_lt {p k m : Nat} (_hk : 0 < k) (h : p < m * k) : p / k < m := Nat.div_lt_of_lt_mul (by rw [Nat.mul_comm]; exact h)
theorem colL_set {k m : Nat} {has : List Bool} {p c : Nat} (b : Bool) (hk : 0 < k) (hl : has.length = m * k) (hp : p < m * k) (hc : c < k) : colL k m (has.set p b) c = if p % k = c then (colL k m has c).set (p / k) b else colL k m has c := by
  split
  · rename_i e
    apply List.ext_getElem (by simp [colL])
    intro j h1 h2
    rw [colL_get, List.getElem_set]
    rw [colL_length] at h1
    split
    · rename_i ej
      subst ej
      have : p / k * k + c = p := by rw [← e]; exact (page_split hk).symm
      rw [this, List.getD_eq_getElem?_getD, List.getElem?_set_self (by omega)]; rfl
    · rename_i ej
      rw [colL_get]
      rw [List.getD_eq_getElem?_getD, List.getElem?_set_ne, ← List.getD_eq_getElem?_getD]
      intro e2
      apply ej
      rw [e2]
      exact (page_of hc).2
  · rename_i e
    unfold colL
    apply List.map_congr_left
    intro j hj
    rw [List.getD_eq_getElem?_getD, List.getElem?_set_ne, ← List.getD_eq_getElem?_getD]
    intro e2
    apply e
    rw [e2]
    exact (page_of hc).1
theorem colL_rep (k m c : Nat) (hc : c < k) : colL k m (List.replicate (m * k) false) c = List.replicate m false := by
  apply List.ext_getElem (by simp [colL])
  intro j h1 h2
  rw [colL_length] at h1
  rw [colL_get, List.getElem_replicate, List.getD_eq_getElem?_getD, List.getElem?_replicate, if_pos (page_lt hc h1)]
  rfl

/-- Free, and of one colour. -/
def ofC (k : Nat) (has : List Bool) (c p : Nat) : Bool := !(has.getD p true) && decide (p % k = c)
theorem low_col {k m : Nat} {has : List Bool} {c : Nat} (hc : c < k) : low (ofC k has c) (m * k) = if Sf.low (colL k m has c) < m then Sf.low (colL k m has c) * k + c else m * k := by
  have hl := colL_length k m has c
  have hbelow : ∀ i, i % k = c → i / k < Sf.low (colL k m has c) → i / k < m → has.getD i true = true := fun i hi hb hm => by
    have h1 := Sf.low_below (colL k m has c) (i / k) hb (by omega)
    rw [colL_get, ← hi, ← page_split (by omega)] at h1
    exact h1
  split
  · rename_i h
    refine low_unique _ _ _ (page_lt hc h) ?_ fun i hi => ?_
    · have h1 := Sf.low_at (colL k m has c) (by omega)
      rw [colL_get] at h1
      unfold ofC
      rw [h1, (page_of hc).1]; simp
    · unfold ofC
      by_cases e : i % k = c
      · have e1 := page_split (p := i) (k := k) (by omega)
        have : i / k < Sf.low (colL k m has c) := by
          refine Nat.lt_of_not_le fun hge => ?_
          have := Nat.mul_le_mul_right k hge
          omega
        rw [hbelow i e this (by omega)]; rfl
      · simp [e]
  · rename_i h
    refine low_none _ _ fun i hi => ?_
    unfold ofC
    by_cases e : i % k = c
    · have hr := row_lt (by omega) hi
      rw [hbelow i e (by have := Sf.low_le (colL k m has c); omega) hr]; rfl
    · simp [e]
theorem low_le (f : Nat → Bool) (n : Nat) : low f n ≤ n := by rcases low_cases f n with ⟨h, _⟩ | ⟨h, _⟩ <;> omega
theorem low_or (f g : Nat → Bool) (n : Nat) : low (fun p => f p || g p) n = min (low f n) (low g n) := by
  have hf := low_cases f n
  have hg := low_cases g n
  have lf := low_le f n
  have lg := low_le g n
  by_cases h : min (low f n) (low g n) < n
  · refine low_unique _ _ _ h ?_ fun i hi => ?_
    · by_cases h1 : low f n ≤ low g n
      · rw [Nat.min_eq_left h1] at h ⊢
        rcases hf with ⟨_, h2, _⟩ | ⟨h2, _⟩
        · simp [h2]
        · omega
      · rw [Nat.min_eq_right (by omega)] at h ⊢
        rcases hg with ⟨_, h2, _⟩ | ⟨h2, _⟩
        · simp [h2]
        · omega
    · have h1 : f i = false := by
        rcases hf with ⟨_, _, h2⟩ | ⟨h2, h3⟩
        · exact h2 i (by omega)
        · exact h3 i (by omega)
      have h2 : g i = false := by
        rcases hg with ⟨_, _, h2⟩ | ⟨h2, h3⟩
        · exact h2 i (by omega)
        · exact h3 i (by omega)
      simp [h1, h2]
  · have : min (low f n) (low g n) = n := by omega
    rw [this]
    refine low_none _ _ fun i hi => ?_
    have h1 : f i = false := by
      rcases hf with ⟨_, _, h2⟩ | ⟨h2, h3⟩
      · omega
      · exact h3 i hi
    have h2 : g i = false := by
      rcases hg with ⟨_, _, h2⟩ | ⟨h2, h3⟩
      · omega
      · exact h3 i hi
    simp [h1, h2]
theorem inW_snoc (k : Nat) (D : List Int) (c p : Nat) : inW k (D ++ [(c : Int)]) p = (inW k D p || decide (p % k = c)) := by
  unfold inW
  rw [List.any_append]
  congr 1
  simp only [List.any_cons, List.any_nil, Bool.or_false]
  rw [Bool.eq_iff_iff]; simp; omega
theorem meant_snoc (k : Nat) (has : List Bool) (D : List Int) (c p : Nat) : meant k has (D ++ [(c : Int)]) p = (meant k has D p || ofC k has c p) := by
  unfold meant ofC
  rw [inW_snoc, Bool.and_or_distrib_left]

/-- A window's colours, each once. -/
def pickC (k : Nat) (acc : List Int) (x : Int) : List Int := if 0 ≤ x ∧ x < k ∧ x ∉ acc then acc ++ [x] else acc
def colsW (k : Nat) (win : List Int) : List Int := win.foldl (pickC k) []
theorem colsW_take {k : Nat} {win : List Int} {j : Nat} (h : j < win.length) : colsW k (win.take (j + 1)) = pickC k (colsW k (win.take j)) win[j] := by
  unfold colsW
  rw [List.take_add_one, List.getElem?_eq_getElem h, List.foldl_append]; rfl
theorem colsW_spec (k : Nat) (win : List Int) : ∀ j : Nat, j ≤ win.length → (∀ x ∈ colsW k (win.take j), 0 ≤ x ∧ x < k) ∧ (colsW k (win.take j)).Nodup ∧ ∀ x : Int, 0 ≤ x → x < k → (x ∈ colsW k (win.take j) ↔ x ∈ win.take j)
  | 0, _ => by simp [colsW]
  | j + 1, h => by
    obtain ⟨h1, h2, h3⟩ := colsW_spec k win j (by omega)
    rw [colsW_take (by omega), List.take_add_one, List.getElem?_eq_getElem (by omega)]
    generalize colsW k (win.take j) = D at *
    generalize win[j] = y at *
    generalize win.take j = l at *
    unfold pickC
    split
    · rename_i hy
      refine ⟨fun x hx => ?_, ?_, fun x hx0 hx1 => ?_⟩
      · rcases List.mem_append.1 hx with h | h
        · exact h1 x h
        · simp at h; subst h; exact ⟨hy.1, hy.2.1⟩
      · rw [List.nodup_append]
        refine ⟨h2, by simp, fun a ha b hb => ?_⟩
        simp at hb; subst hb
        exact fun e => hy.2.2 (e ▸ ha)
      · simp [h3 x hx0 hx1]
    · rename_i hy
      refine ⟨h1, h2, fun x hx0 hx1 => ?_⟩
      simp only [Option.toList_some, List.mem_append, List.mem_singleton]
      constructor
      · exact fun hx => .inl ((h3 x hx0 hx1).1 hx)
      · rintro (hx | hx)
        · exact (h3 x hx0 hx1).2 hx
        · subst hx
          exact Decidable.byContradiction fun hn => hy ⟨hx0, hx1, hn⟩
theorem nodup_short : ∀ (k : Nat) (l : List Int), l.Nodup → (∀ x ∈ l, 0 ≤ x ∧ x < (k : Int)) → l.length ≤ k
  | 0, l, _, h => by
    cases l with
    | nil => simp
    | cons x r => have := h x (by simp); omega
  | k + 1, l, hn, h => by
    have h1 := nodup_short k (l.erase (k : Int)) (hn.erase _) fun x hx => by
      rw [hn.mem_erase_iff] at hx
      have := h x hx.2
      have := hx.1
      omega
    have := List.length_erase (a := (k : Int)) (l := l)
    split at this <;> omega
theorem colsW_short (k : Nat) (win : List Int) (j : Nat) (h : j ≤ win.length) : (colsW k (win.take j)).length ≤ k := by
  obtain ⟨h1, h2, _⟩ := colsW_spec k win j h
  exact nodup_short k _ h2 h1
section
variable {k : Nat} {has : List Bool} {win : List Int}
theorem colsW_inW (hk : 0 < k) (p : Nat) : inW k (colsW k win) p = inW k win p := by
  obtain ⟨_, _, h3⟩ := colsW_spec k win win.length (Nat.le_refl _)
  rw [List.take_length] at h3
  have hm := Nat.mod_lt p hk
  unfold inW
  rw [Bool.eq_iff_iff, List.any_eq_true, List.any_eq_true]
  constructor
  · rintro ⟨x, hx, e⟩
    have e' : x = ((p % k : Nat) : Int) := by simpa using e
    exact ⟨x, (h3 x (by omega) (by omega)).1 hx, e⟩
  · rintro ⟨x, hx, e⟩
    have e' : x = ((p % k : Nat) : Int) := by simpa using e
    exact ⟨x, (h3 x (by omega) (by omega)).2 hx, e⟩
theorem colsW_meant (hk : 0 < k) : meant k has (colsW k win) = meant k has win := by funext p; unfold meant; rw [colsW_inW hk]
theorem colsW_takP (hk : 0 < k) : takP k has (colsW k win) = takP k has win := by unfold takP; rw [colsW_meant hk]
end
/-- The lowest page of a window, or none. -/
def loI (k : Nat) (has : List Bool) (win : List Int) : Int := if takP k has win < has.length then (takP k has win : Int) else -1
section
variable {k m : Nat} {has : List Bool} {D : List Int} {c : Nat}
theorem loI_nil : loI k has [] = -1 := by
  unfold loI takP
  rw [low_none _ _ fun i _ => by simp [meant, inW]]
  simp
theorem loI_snoc (hl : has.length = m * k) (hc : c < k) : loI k has (D ++ [(c : Int)]) = if 0 ≤ Sf.lowI (colL k m has c) ∧ (loI k has D < 0 ∨ Sf.lowI (colL k m has c) * k + c < loI k has D) then Sf.lowI (colL k m has c) * k + c else loI k has D := by
  have e1 : takP k has (D ++ [(c : Int)]) = min (takP k has D) (low (ofC k has c) (m * k)) := by
    unfold takP
    rw [show meant k has (D ++ [(c : Int)]) = fun p => meant k has D p || ofC k has c p from funext (meant_snoc k has D c), low_or, hl]
  have l1 : takP k has D ≤ has.length := low_le _ _
  have l2 := colL_length k m has c
  rw [low_col hc] at e1
  unfold loI Sf.lowI
  rw [e1, l2]
  by_cases h : Sf.low (colL k m has c) < m
  · have hp := page_lt hc h
    simp only [h, if_true]
    rw [show ((Sf.low (colL k m has c) : Int) * (k : Int) + (c : Int)) = ((Sf.low (colL k m has c) * k + c : Nat) : Int) by simp]
    generalize Sf.low (colL k m has c) * k + c = P at *
    generalize takP k has D = T at *
    by_cases hT : T < has.length
    · rw [if_pos hT, if_pos (by omega)]
      by_cases h2 : P < T
      · rw [Nat.min_eq_right (by omega), if_pos (by omega)]
      · rw [Nat.min_eq_left (by omega), if_neg (by omega)]
    · rw [if_neg hT, Nat.min_eq_right (by omega), if_pos (by omega), if_pos (by omega)]
  · simp only [h, if_false]
    rw [Nat.min_eq_left (by omega)]
    symm
    apply if_neg
    omega
end
/-- What a shelf says of a page is what the map says of it. -/
theorem col_hasN {k m : Nat} {has : List Bool} {p : Nat} (hk : 0 < k) (hl : has.length = m * k) (hp : p < has.length) : Sf.hasN (colL k m has (p % k)) ((p / k : Nat) : Int) = true := by
  have := row_lt hk (hl ▸ hp)
  rw [Sf.hasN_iff, colL_length]
  exact ⟨Int.natCast_nonneg _, Int.ofNat_lt.2 this⟩
theorem col_isT {k m : Nat} {has : List Bool} {p : Nat} (hk : 0 < k) (hl : has.length = m * k) (hp : p < has.length) : Sf.isT (colL k m has (p % k)) ((p / k : Nat) : Int) = has.getD p true := by
  have := row_lt hk (hl ▸ hp)
  unfold Sf.isT
  rw [col_hasN hk hl hp, Bool.true_and, Int.toNat_natCast, List.getD_eq_getElem?_getD, List.getElem?_eq_getElem (by rw [colL_length]; exact this), colL_get, ← page_split hk]
  rfl
end Go.Proofs.YtejbdbjccjkfdaaGreatDoor.Cq

namespace Go.Proofs.YtejbdbjccjkfdaaGreatDoor.Cq
open Go.RowKit

theorem Tryz.infoInt : (Tryz.prog.info? 3).map (fun i => (i.zero, i.size, i.bytes)) = some (some (.int .i64 0), 1, 8) := by kernel_rfl
def ic (l : List Int) : List Value := l.map fun x => Value.int .i64 x
theorem ic_length (l : List Int) : (ic l).length = l.length := by simp [ic]
theorem ic_one (l : List Int) : ∀ u ∈ ic l, u.oneCell' = true := by
  intro v hv; simp only [ic, List.mem_map] at hv; obtain ⟨x, _, rfl⟩ := hv; rfl
theorem nums_row {w : World} {base g cap : Nat} {l : List Int} (h : w.ownsRow base 3 1 (.slice (some ⟨g, 0, none⟩) l.length cap) l.length (ic l)) : NumsAt w (some ⟨g, 0, none⟩) l := fun i hi => by
  refine ⟨g, 0, rfl, (h.lt g rfl).2, ?_⟩
  have := h.cells (g := g) rfl i (.int .i64 l[i]) (by simp [ic, hi])
  rw [add_plain] at this
  exact this
end Go.Proofs.YtejbdbjccjkfdaaGreatDoor.Cq
