/-
  Frames, byte rows and a forward goto: plain laws that every walk over the arena uses. Nothing of the program is named here.
-/
import Derived.WalkKit
import Derived.WalkSpells
import Derived.WalkLawsBesides
import Derived.ScopeJumps
import Derived.Lib.SliceRun
import Derived.Lib.Strings
import Derived.Laws.BytesArg
import Derived.Laws.CopyOwn
namespace Go.Proofs.YtdjpkpgajifjiaaDoor
open Go.RowKit

theorem hid {p : Prop} (h : p) : Hid p := h
/-- An int. -/
abbrev I64 (x : Int) : Prop := -9223372036854775808 ≤ x ∧ x ≤ 9223372036854775807
theorem add_plain (b f j : Nat) : (⟨b, f, none⟩ : Addr).add j = ⟨b, f + j, none⟩ := by unfold Addr.add; split <;> simp_all
/-- What w' has of w: no block that was there has turned, but for those of S. -/
structure Fr (S : Nat → Prop) (w w' : World) : Prop where
  os : w'.os = w.os
  tape : w'.tape = w.tape
  output : w'.output = w.output
  size : w.heap.size ≤ w'.heap.size
  block : ∀ k, k < w.heap.size → ¬ S k → w'.heap[k]? = w.heap[k]?

theorem Fr.refl (S : Nat → Prop) (w : World) : Fr S w w := ⟨rfl, rfl, rfl, Nat.le_refl _, fun _ _ _ => rfl⟩
theorem Fr.trans {S : Nat → Prop} {a b c : World} (h : Fr S a b) (k : Fr S b c) : Fr S a c :=
  ⟨k.os.trans h.os, k.tape.trans h.tape, k.output.trans h.output, Nat.le_trans h.size k.size, fun i hi hs => (k.block i (Nat.lt_of_lt_of_le hi h.size) hs).trans (h.block i hi hs)⟩
theorem Fr.trans' {S S' : Nat → Prop} {a b c : World} (h : Fr S a b) (k : Fr S' b c) (hs : ∀ i, i < a.heap.size → S' i → S i) : Fr S a c :=
  ⟨k.os.trans h.os, k.tape.trans h.tape, k.output.trans h.output, Nat.le_trans h.size k.size, fun i hi hn => (k.block i (Nat.lt_of_lt_of_le hi h.size) (fun e => hn (hs i hi e))).trans (h.block i hi hn)⟩
theorem Fr.mono {S S' : Nat → Prop} {a b : World} (h : Fr S a b) (hs : ∀ k, k < a.heap.size → S k → S' k) : Fr S' a b :=
  ⟨h.os, h.tape, h.output, h.size, fun i hi hn => h.block i hi (fun e => hn (hs i hi e))⟩
theorem Fr.alloc {S : Nat → Prop} {a w : World} (h : Fr S a w) (o : Obj) : Fr S a (w.alloc o) :=
  ⟨h.os, h.tape, h.output, by have := h.size; simp; omega, fun i hi hn => (Below.heap_alloc w o i (by have := h.size; omega)).trans (h.block i hi hn)⟩
theorem Fr.drew {S : Nat → Prop} {a w : World} (h : Fr S a w) : Fr S a w.drew := ⟨h.os, h.tape, h.output, h.size, h.block⟩
/-- Of what is laid anew one may do anything. -/
theorem Fr.new {w w' : World} (h : Fr (fun k => w.heap.size ≤ k) w w') : Fr (fun _ => False) w w' := h.mono fun k hk hs => by omega
theorem Fr.drewN {S : Nat → Prop} {a w : World} (h : Fr S a w) (n : Nat) : Fr S a (w.drewN n) := ⟨h.os, h.tape, h.output, h.size, h.block⟩
theorem Fr.setCell {S : Nat → Prop} {a w : World} (h : Fr S a w) {p : Addr} (hp : S p.block) (u : Value) : Fr S a (w.setCell p u) :=
  ⟨h.os, h.tape, h.output, by have := h.size; simp [World.setCell]; omega, fun i hi hn => (Below.heap_setCell w p u i (fun e => hn (e ▸ hp))).trans (h.block i hi hn)⟩
theorem Fr.setRow {S : Nat → Prop} {a w : World} (h : Fr S a w) {g : Nat} (hp : S g) (c : Array Value) : Fr S a (w.setRow g c) :=
  ⟨h.os, h.tape, h.output, by have := h.size; simp [World.setRow]; omega, fun i hi hn => (setRow_other w g i c (fun e => hn (e ▸ hp))).trans (h.block i hi hn)⟩
theorem Fr.grown {S : Nat → Prop} {a w w' : World} {row : Option Nat} (h : Fr S a w) (hg : w.grownBy w' row) (hr : ∀ k, row = some k → S k ∨ a.heap.size ≤ k) : Fr S a w' :=
  ⟨hg.os.trans h.os, hg.tape.trans h.tape, hg.output.trans h.output, Nat.le_trans h.size hg.size, fun i hi hn => (hg.block i (by have := h.size; omega) (fun e => by
    rcases hr i e.symm with h1 | h1
    · exact hn h1
    · omega)).trans (h.block i hi hn)⟩
theorem Fr.below {S : Nat → Prop} {a w : World} {B : Nat} (h : Fr S a w) (hB : B ≤ a.heap.size) (hS : ∀ k, k < B → ¬ S k) : Below B a w :=
  ⟨h.os, h.tape, h.output, h.size, fun k hk => h.block k (by omega) (hS k hk)⟩
theorem Fr.ofBelow {w w' : World} (h : Below w.heap.size w w') : Fr (fun _ => False) w w' :=
  ⟨h.os, h.tape, h.output, h.size, fun k hk _ => h.block k hk⟩

theorem heap_one (w : World) (o1 o2 : Obj) : ((w.alloc o1).alloc o2).heap[w.heap.size]? = some o1 := (Below.heap_alloc _ _ _ (by simp)).trans (heap_alloc_new w o1)
theorem heap_two (w : World) (o1 o2 : Obj) : ((w.alloc o1).alloc o2).heap[w.heap.size + 1]? = some o2 := by
  have := heap_alloc_new (w.alloc o1) o2
  simpa using this

/-- Bytes as cells. -/
def bc (l : List UInt8) : List Value := l.map fun x => Value.int .u8 (x.toNat : Int)
theorem bc_length (l : List UInt8) : (bc l).length = l.length := by simp [bc]
theorem bc_one (l : List UInt8) : ∀ v ∈ bc l, v.oneCell' = true := by
  intro v hv; simp only [bc, List.mem_map] at hv; obtain ⟨x, _, rfl⟩ := hv; rfl
theorem bc_append (l m : List UInt8) : bc (l ++ m) = bc l ++ bc m := by simp [bc]
theorem bc_take (l : List UInt8) (n : Nat) : bc (l.take n) = (bc l).take n := by simp [bc, List.map_take]
theorem bc_drop (l : List UInt8) (n : Nat) : bc (l.drop n) = (bc l).drop n := by simp [bc, List.map_drop]

theorem ext_list (s : ByteArray) (a b : Nat) : (s.extract a b).toList = (s.data.toList.drop a).take (b - a) := by
  rw [ByteArray.toList_eq, Lib.extract_data]
theorem app_list (s t : ByteArray) : (s ++ t).toList = s.toList ++ t.toList := by
  rw [ByteArray.toList_eq, ByteArray.toList_eq, ByteArray.toList_eq]; simp
theorem len_list (s : ByteArray) : s.data.toList.length = s.size := by rw [Array.length_toList]; rfl

/-- A scope with one label that is jumped to once, from ahead of it, in world W, whatever the frame's N slots hold. -/
theorem wp_scope_forward {P : Program} {a : Act} {w : World} {Q : Exit → Act → World → Prop} {c rest : Code} (l N : Nat) (W : World) (hf : findLabel c l = some rest)
    (first : c.wp P (Exit.jump l (fun a' w' => w' = W ∧ a'.defers = [] ∧ a'.tmps.size = N) Q) a w)
    (behind : ∀ A : Act, A.defers = [] → A.tmps.size = N → rest.wp P (Exit.jump l (fun a' w' => (w' = W ∧ a'.defers = [] ∧ a'.tmps.size = N) ∧ 0 < 0) Q) A W) : (Code.scope c).wp P Q a w :=
  wp_scope_jumps l (fun a' w' => w' = W ∧ a'.defers = [] ∧ a'.tmps.size = N) (fun _ _ => 0) hf first (by rintro A _ ⟨rfl, h1, h2⟩; exact behind A h1 h2)
theorem jump_ret {l : Nat} {J : Act → World → Prop} {Q : Exit → Act → World → Prop} {a : Act} {w : World} : Exit.jump l J Q .ret a w = Q .ret a w := rfl

/-- A row of bytes, its cells and marks. -/
theorem row_cell {w : World} {b : Nat} {l : List UInt8} {T : TypeId} (h : w.heap[b]? = some (.cells (bc l).toArray T (0, 0))) (j : Nat) (hj : j < l.length) : w.cell? ⟨b, j, none⟩ = some (.int .u8 ((l[j]'hj).toNat : Int)) := by
  simp [World.cell?, h, bc, hj]
theorem row_frozen {w : World} {b : Nat} {l : List Value} {T : TypeId} (h : w.heap[b]? = some (.cells l.toArray T (0, 0))) (j : Nat) : w.frozen? ⟨b, j, none⟩ = false := by
  simp [World.frozen?, h]

section
variable {P : Program}
/-- 'string(b[at:at+n])'. -/
theorem run_bytes_string {w : World} (src e dst : TypeId) (hs : P.underlying src = some (.slice e)) (he : P.underlying e = some (.int .u8)) (hd : P.underlying dst = some .string) {b : Nat} {l : List UInt8} {T : TypeId} (h : w.heap[b]? = some (.cells (bc l).toArray T (0, 0)))
    (at_ n cap : Nat) (hn : at_ + n ≤ l.length) :
    (convert src dst (.slice (some ⟨b, at_, none⟩) n cap)).run P w = .ok (.string ⟨((l.drop at_).take n).toArray⟩) w := by
  have := run_convert_bytes_arg (P := P) w src e hs he b at_ n cap (((l.drop at_).take n).map fun x => (x.toNat : Int)) (by simp; omega) (by
    intro i hi
    rw [row_cell h (at_ + i) (by omega)]
    have hi' : i < ((l.drop at_).take n).length := by simp; omega
    simp [List.getD, hi, List.getElem?_drop, show at_ + i < l.length by omega]) dst hd
  rw [this]
  simp [strOfNums, List.map_map, Function.comp_def]
/-- The same of no byte, wherever it lies. -/
theorem run_bytes_string_none {w : World} (src e dst : TypeId) (hs : P.underlying src = some (.slice e)) (he : P.underlying e = some (.int .u8)) (hd : P.underlying dst = some .string) (b at_ cap : Nat) :
    (convert src dst (.slice (some ⟨b, at_, none⟩) 0 cap)).run P w = .ok (.string ⟨#[]⟩) w := by
  have := run_convert_bytes_arg (P := P) w src e hs he b at_ 0 cap [] rfl (by intro i hi; omega) dst hd
  rw [this]; rfl
/-- 'copy(dst, s)', s a string that has room. -/
theorem run_copy_text {w : World} (dT sT ty elem : TypeId) (hu : P.underlying dT = some (.slice elem)) (hsz : (P.info? elem).map (·.size) = some 1) {b : Nat} {l : List UInt8} {T : TypeId} (h : w.heap[b]? = some (.cells (bc l).toArray T (0, 0)))
    (at_ dLen dCap : Nat) (s : ByteArray) (hs : s.size ≤ dLen) (hfit : at_ + s.size ≤ l.length) :
    (Builtin.copy_ #[dT, sT] ty #[.slice (some ⟨b, at_, none⟩) dLen dCap, .string s]).run P w = .ok (goInt s.size) (w.setRow b (bc (l.take at_ ++ s.data.toList ++ l.drop (at_ + s.size))).toArray) := by
  have hl : (bc s.data.toList).length = s.size := by rw [bc_length, Array.length_toList]; rfl
  have hst := run_storeCells_at P b at_ T (bc s.data.toList) 0 (bc l).toArray w h (by rw [hl]; simp only [List.size_toArray, bc_length]; omega) (bc_one _)
  rw [hl] at hst
  simp only [Nat.add_zero] at hst
  have hmin : Nat.min s.size dLen = s.size := Nat.min_eq_left hs
  have hfc : (Builtin.firstCells 1 s.size (.string s)).run P w = .ok (bc s.data.toList).toArray w := by
    simp [Builtin.firstCells, bc]
    apply Array.ext'
    simp
  have hrow : ((bc l).toArray.toList.take at_ ++ bc s.data.toList ++ (bc l).toArray.toList.drop (at_ + s.size)) = bc (l.take at_ ++ s.data.toList ++ l.drop (at_ + s.size)) := by
    rw [bc_append, bc_append, bc_take, bc_drop]
  rw [hrow] at hst
  cases hq : P.info? elem with
  | none => rw [hq] at hsz; cases hsz
  | some i =>
    have hi : i.size = 1 := by rw [hq] at hsz; simpa using hsz
    simp [Builtin.copy_, run_underlying hu, Builtin.lenOf, sizeOf, typeInfo, hq, hi, hmin, hfc, hst]
theorem run_copy_text_none {w : World} (dT sT ty elem : TypeId) (hu : P.underlying dT = some (.slice elem)) (hsz : (P.info? elem).map (·.size) = some 1) (a : Option Addr) (dLen dCap : Nat) (s : ByteArray) (hs : s.size = 0) :
    (Builtin.copy_ #[dT, sT] ty #[.slice a dLen dCap, .string s]).run P w = .ok (goInt 0) w := by
  have hmin : Nat.min s.size dLen = 0 := by rw [hs]; exact Nat.zero_min _
  cases hq : P.info? elem with
  | none => rw [hq] at hsz; cases hsz
  | some i =>
    have hi : i.size = 1 := by rw [hq] at hsz; simpa using hsz
    cases a <;> simp [Builtin.copy_, run_underlying hu, Builtin.lenOf, sizeOf, typeInfo, hq, hmin, Builtin.firstCells, storeCells]
/-- 'copy(b[to:to+n], b[from:from+n])', within one row, however the two lie. -/
theorem run_copy_within {w : World} (dT ty elem : TypeId) (hu : P.underlying dT = some (.slice elem)) (hsz : (P.info? elem).map (·.size) = some 1) {b : Nat} {l : List UInt8} {T : TypeId} (h : w.heap[b]? = some (.cells (bc l).toArray T (0, 0)))
    (to fro n c1 c2 : Nat) (h1 : to + n ≤ l.length) (h2 : fro + n ≤ l.length) :
    (Builtin.copy_ #[dT, dT] ty #[.slice (some ⟨b, to, none⟩) n c1, .slice (some ⟨b, fro, none⟩) n c2]).run P w = .ok (goInt n) (w.setRow b (bc (l.take to ++ (l.drop fro).take n ++ l.drop (to + n))).toArray) := by
  have hl : (bc ((l.drop fro).take n)).length = n := by rw [bc_length]; simp; omega
  have := run_copy_row (P := P) w dT dT ty elem b to n c1 ⟨b, fro, none⟩ n c2 (bc l).toArray T (bc ((l.drop fro).take n)) hu hsz h (by rw [hl]; simp) (by
    intro j v hj
    have hjl : j < n := by have := (List.getElem?_eq_some_iff.1 hj).1; omega
    have hadd : (⟨b, fro, none⟩ : Addr).add j = ⟨b, fro + j, none⟩ := by unfold Addr.add; split <;> simp_all
    rw [hadd, row_cell h (fro + j) (by omega), ← hj]
    simp [bc, hjl, show fro + j < l.length by omega]) (by rw [hl]; simp only [List.size_toArray, bc_length]; omega) (bc_one _)
  rw [hl] at this
  rw [this, bc_append, bc_append, bc_take, bc_drop, bc_take, bc_drop]
/-- 'clear(b[at:at+n])'. -/
theorem run_clear_row {w : World} (dT ty elem : TypeId) (z : TypeInfo) (hu : P.underlying dT = some (.slice elem)) (hi : P.info? elem = some z) (hz : z.zero = some (.int .u8 0)) {b : Nat} {l : List UInt8} {T : TypeId} (h : w.heap[b]? = some (.cells (bc l).toArray T (0, 0)))
    (at_ n cap : Nat) (hn : 0 < n) (hfit : at_ + n ≤ l.length) :
    (Builtin.clear_ #[dT] ty #[.slice (some ⟨b, at_, none⟩) n cap]).run P w = .ok (.tuple #[]) (w.setRow b (bc (l.take at_ ++ List.replicate n 0 ++ l.drop (at_ + n))).toArray) := by
  have hl : (bc (List.replicate n 0)).length = n := by rw [bc_length]; simp
  have hst := run_storeCells_at P b at_ T (bc (List.replicate n 0)) 0 (bc l).toArray w h (by rw [hl]; simp only [List.size_toArray, bc_length]; omega) (bc_one _)
  rw [hl] at hst
  simp only [Nat.add_zero] at hst
  have hrow : ((bc l).toArray.toList.take at_ ++ bc (List.replicate n 0) ++ (bc l).toArray.toList.drop (at_ + n)) = bc (l.take at_ ++ List.replicate n 0 ++ l.drop (at_ + n)) := by
    rw [bc_append, bc_append, bc_take, bc_drop]
  rw [hrow] at hst
  have hzc : (Builtin.zeroCells (Value.int .u8 0).cells n).toList = bc (List.replicate n 0) := by
    apply List.ext_getElem
    · simp [Builtin.zeroCells, bc, Value.cells]
    · intro i h1 h2
      simp [Builtin.zeroCells, bc, Value.cells, Nat.mod_one]
  obtain ⟨m, rfl⟩ : ∃ m, n = m + 1 := ⟨n - 1, by omega⟩
  simp [Builtin.clear_, run_underlying hu, zeroValue, typeInfo, hi, hz, hzc, hst]
theorem run_clear_none {w : World} (dT ty elem : TypeId) (hu : P.underlying dT = some (.slice elem)) (a : Option Addr) (cap : Nat) :
    (Builtin.clear_ #[dT] ty #[.slice a 0 cap]).run P w = .ok (.tuple #[]) w := by
  cases a <;> simp [Builtin.clear_, run_underlying hu]
/-- An append to a row of the call's own, of at least one element: what is behind it lies in the same block, or in a new one. -/
theorem run_append_sep (w : World) (base : Nat) (t ty e : TypeId) (i : TypeInfo) (z : Value) (size bytes : Nat) (ht : P.underlying t = some (.slice e)) (hi : P.info? e = some i) (hz : i.zero = some z)
    (hsize : i.size = size) (hby : i.bytes = bytes) (hzs : z.cells.size = size) (hsz : 0 < size)
    (v : Value) (n : Nat) (xs : List Value) (hown : w.ownsRow base e size v n xs)
    (a : Addr) (m c : Nat) (hm : 0 < m) (news : List Value) (hl : news.length = m * size) (hnews : ∀ j u, news[j]? = some u → w.cell? (a.add j) = some u) (h1 : ∀ u ∈ news, u.oneCell' = true)
    (h63 : n + m ≤ maxLen) (hbytes : (n + m) * bytes ≤ 140737488355328) (hbase : base ≤ w.heap.size) :
    ∃ g cap w', (Builtin.append_ #[t, t] ty #[v, .slice (some a) m c]).run P w = .ok (.slice (some ⟨g, 0, none⟩) (n + m) cap) w' ∧ w'.ownsRow base e size (.slice (some ⟨g, 0, none⟩) (n + m) cap) (n + m) (xs ++ news) ∧ w.grownBy w' v.ownBlock ∧
      (v.ownBlock = some g ∨ g = w.heap.size) := by
  obtain ⟨v', w', hr, ho, hgr, hnil⟩ := run_append_own (P := P) w base t ty e i z size bytes ht hi hz hsize hby hzs hsz v n xs hown a m c news hl hnews h1 h63 hbytes hbase
  have h63' : ((n + m : Nat) : Int) ≤ 9223372036854775807 := by simp only [maxLen] at h63; omega
  subst hsize
  subst hby
  obtain ⟨g, cap, rfl⟩ : ∃ g cap, v' = .slice (some ⟨g, 0, none⟩) (n + m) cap := by
    rcases ho.2 with ⟨h0, h2⟩ | ⟨g, cap, _, h2, _⟩
    · omega
    · exact ⟨g, cap, h2⟩
  refine ⟨g, cap, w', hr, ho, hgr, ?_⟩
  rcases hown.2 with ⟨rfl, rfl⟩ | ⟨g', cap', cur, rfl, hbg, hg, hnc, hcm, hcs, htake⟩
  · have hr2 := run_append_nil (P := P) w t ty e i z ht hi hz a m c news hl hnews hm (by omega) (by have hb := hbytes; simp only [Nat.zero_add] at hb; omega)
    rw [hr] at hr2
    simp only [Result.ok.injEq, Value.slice.injEq, Option.some.injEq, Addr.mk.injEq] at hr2
    exact .inr hr2.1.1.1
  · by_cases hroom : n + m ≤ cap'
    · have hfit : n * i.size + news.length ≤ cur.size := by rw [hl, hcs, ← Nat.add_mul]; exact Nat.mul_le_mul_right _ hroom
      have hr2 := run_append_room (P := P) w t ty e i ht hi g' n cap' cur hg a m c news hl hnews h1 hroom hfit
      rw [hr] at hr2
      simp only [Result.ok.injEq, Value.slice.injEq, Option.some.injEq, Addr.mk.injEq] at hr2
      exact .inl (by rw [hr2.1.1.1]; rfl)
    · have hr2 := run_append_grow (P := P) w t ty e i z ht hi hz ⟨g', 0, none⟩ n cap' xs hown.1 (hown.cells (g := g') rfl) a m c news hl hnews (by omega) h63' (growslice_fits (by omega) hbytes)
      rw [hr] at hr2
      simp only [Result.ok.injEq, Value.slice.injEq, Option.some.injEq, Addr.mk.injEq] at hr2
      exact .inr hr2.1.1.1

theorem wpList_append_sep {w : World} {ops : Array Oper} {rest : List Oper} {o : Oper} {a : Act} {Q : Exit → Act → World → Prop} (hgd : o.guard = none) (s x : Operand) (t : TypeId)
    (ho : o.op = .call { callee := .builtin .append, args := #[s, x], argTypes := #[t, t] })
    (base : Nat) (e : TypeId) (i : TypeInfo) (z : Value) (size bytes : Nat) (ht : P.underlying t = some (.slice e)) (hi : P.info? e = some i) (hz : i.zero = some z)
    (hsize : i.size = size) (hby : i.bytes = bytes) (hzs : z.cells.size = size) (hsz : 0 < size)
    (v : Value) (n : Nat) (xs : List Value) (hs : a.eval s = v) (hown : w.ownsRow base e size v n xs)
    (ad : Addr) (m c : Nat) (hm : 0 < m) (news : List Value) (hx : a.eval x = .slice (some ad) m c) (hl : news.length = m * size) (hnews : ∀ j u, news[j]? = some u → w.cell? (ad.add j) = some u) (h1 : ∀ u ∈ news, u.oneCell' = true)
    (h63 : n + m ≤ maxLen) (hbytes : (n + m) * bytes ≤ 140737488355328) (hbase : base ≤ w.heap.size)
    (h : ∀ g cap w', w'.ownsRow base e size (.slice (some ⟨g, 0, none⟩) (n + m) cap) (n + m) (xs ++ news) → w.grownBy w' v.ownBlock → (v.ownBlock = some g ∨ g = w.heap.size) → wpList P ops Q rest (a.put o.dst (.slice (some ⟨g, 0, none⟩) (n + m) cap)) w') : wpList P ops Q (o :: rest) a w := by
  refine wpList_plain hgd fun K hK => ?_
  obtain ⟨g, cap, w', hr, h2, h3, h4⟩ := run_append_sep (P := P) w base t o.type e i z size bytes ht hi hz hsize hby hzs hsz v n xs hown ad m c hm news hl hnews h1 h63 hbytes hbase
  unfold Oper.wp
  simp [execOp, ho, resolve, invoke, builtin, hs, hx, hr, Result.andThen]
  exact hK _ _ (h g cap w' h2 h3 h4)
end
end Go.Proofs.YtdjpkpgajifjiaaDoor
