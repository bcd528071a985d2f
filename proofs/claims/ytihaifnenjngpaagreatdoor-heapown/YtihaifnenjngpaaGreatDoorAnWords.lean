/-
  What the calls of package arena do, each for every state of an arena and every argument: contracts.
  Load and Store: words of eight bytes.
-/
import Derived.Test.YtihaifnenjngpaaGreatDoorRows
import Derived.Test.YtihaifnenjngpaaGreatDoorBase
namespace Go.Proofs.YtihaifnenjngpaaGreatDoor.An
open Go.RowKit

/-- A span: from where on, how many bytes, were they written? -/
abbrev Sp : Type := Int × Int × Bool
/-- Spans as cells, three each. -/
def spcs : List Sp → List Value
  | [] => []
  | s :: r => .int .i64 s.1 :: .int .i64 s.2.1 :: .bool s.2.2 :: spcs r
theorem spcs_append : ∀ l m : List Sp, spcs (l ++ m) = spcs l ++ spcs m
  | [], m => rfl
  | s :: r, m => by simp [spcs, spcs_append r m]
theorem spcs_one : ∀ l : List Sp, ∀ u ∈ spcs l, u.oneCell' = true
  | [], u, h => by cases h
  | s :: r, u, h => by
    simp only [spcs, List.mem_cons] at h
    rcases h with rfl | rfl | rfl | h
    · rfl
    · rfl
    · rfl
    · exact spcs_one r u h

/-- In w there lies an arena (type T) at block a: its bytes bs lie in block b; its touches are the spans ss, held by v; whatever it grows into has a number from B on. -/
structure Ar (w : World) (T : TypeId) (B a b : Nat) (bs : List UInt8) (v : Value) (ss : List Sp) : Prop where
  st : w.heap[a]? = some (.cells #[.slice (some ⟨b, 0, none⟩) bs.length bs.length, v] T (0, 0))
  by' : w.heap[b]? = some (.cells (bc bs).toArray 5 (0, 0))
  tr : w.ownsRow B 83 3 v ss.length (spcs ss)
  la : a < B
  lb : b < B
  ab : a ≠ b
  le : bs.length ≤ 2097152
  lB : B ≤ w.heap.size
  nz : ss = [] → v = .slice none 0 0

section
variable {w : World} {T : TypeId} {B a b : Nat} {bs : List UInt8} {v : Value} {ss : List Sp}
theorem Ar.c0 (h : Ar w T B a b bs v ss) : w.cell? ⟨a, 0, none⟩ = some (.slice (some ⟨b, 0, none⟩) bs.length bs.length) := by
  simp [World.cell?, h.st]
theorem Ar.c1 (h : Ar w T B a b bs v ss) : w.cell? ⟨a, 1, none⟩ = some v := by
  simp [World.cell?, h.st]
theorem Ar.f1 (h : Ar w T B a b bs v ss) : w.frozen? ⟨a, 1, none⟩ = false := by
  simp [World.frozen?, h.st]
theorem Ar.carry {S : Nat → Prop} {w' : World} (h : Ar w T B a b bs v ss) (hf : Fr S w w') (h1 : ¬ S a) (h2 : ¬ S b) (h3 : ∀ x, v.ownBlock = some x → ¬ S x) : Ar w' T B a b bs v ss := by
  have hl := h.la; have hm := h.lb; have hB := h.lB
  refine ⟨?_, ?_, ?_, hl, hm, h.ab, h.le, by have := hf.size; omega, h.nz⟩
  · rw [hf.block a (by omega) h1]; exact h.st
  · rw [hf.block b (by omega) h2]; exact h.by'
  · refine ⟨h.tr.1, ?_⟩
    rcases h.tr.2 with hn | ⟨g, cap, cur, rfl, hb, hgg, rest⟩
    · exact .inl hn
    · refine .inr ⟨g, cap, cur, rfl, hb, ?_, rest⟩
      rw [hf.block g (Array.getElem?_eq_some_iff.1 hgg).1 (h3 g rfl)]
      exact hgg
/-- The bytes' row is laid anew: all else stays. -/
theorem Ar.setRow (h : Ar w T B a b bs v ss) (bs' : List UInt8) (hl : bs'.length = bs.length) : Ar (w.setRow b (bc bs').toArray) T B a b bs' v ss := by
  have h1 := h.la; have h2 := h.lb; have h3 := h.lB
  refine ⟨?_, ?_, ?_, h.la, h.lb, h.ab, by rw [hl]; exact h.le, by simpa [World.setRow] using h.lB, h.nz⟩
  · rw [setRow_other w b a _ h.ab, hl]; exact h.st
  · exact setRow_heap w b _ _ _ _ h.by'
  · refine ⟨h.tr.1, ?_⟩
    rcases h.tr.2 with hn | ⟨g, cap, cur, rfl, hb, hgg, rest⟩
    · exact .inl hn
    · exact .inr ⟨g, cap, cur, rfl, hb, by rw [setRow_other w b g _ (by omega)]; exact hgg, rest⟩
theorem Ar.drew (h : Ar w T B a b bs v ss) : Ar w.drew T B a b bs v ss := ⟨h.st, h.by', h.tr, h.la, h.lb, h.ab, h.le, h.lB, h.nz⟩
theorem Ar.own (h : Ar w T B a b bs v ss) : ∀ x, v.ownBlock = some x → B ≤ x ∧ x < w.heap.size := h.tr.lt
end

theorem heap_setCell_two {w : World} {a : Nat} {x v u : Value} {T : TypeId} (h : w.heap[a]? = some (.cells #[x, v] T (0, 0))) : (w.setCell ⟨a, 1, none⟩ u).heap[a]? = some (.cells #[x, u] T (0, 0)) := by
  simp [World.setCell, Array.getElem?_modify, h]

theorem Tryz.info58 : (Tryz.prog.info? 83).map (fun i => (i.zero, i.size, i.bytes)) = some (some (.agg #[.int .i64 0, .int .i64 0, .bool false]), 3, 24) := by kernel_rfl
theorem Tryz.info5 : (Tryz.prog.info? 5).map (fun i => (i.zero, i.size, i.bytes)) = some (some (.int .u8 0), 1, 1) := by kernel_rfl

/-- Are these bytes there? -/
def inB (x n : Int) (len : Nat) : Bool := decide (0 ≤ x ∧ 0 ≤ n ∧ n ≤ len - x)
theorem inB_true {x n : Int} {len : Nat} : inB x n len = true ↔ 0 ≤ x ∧ 0 ≤ n ∧ n ≤ len - x := by simp [inB]


set_option maxRecDepth 20000 in
set_option maxHeartbeats 400000 in
theorem there_any {w : World} {B a b : Nat} {bs : List UInt8} {v : Value} {ss : List Sp} (h : Ar w 128 B a b bs v ss) (x n : Int) (hx : x ≤ 9223372036854775807) :
    Calls Tryz.prog 68 #[.pointer (some ⟨a, 0, none⟩), .int .i64 x, .int .i64 n] w fun e w' => e = .returned (.bool (inB x n bs.length)) ∧ w' = w := by
  have c0 := h.c0
  have hl := h.le
  clear h
  by_cases h1 : 0 ≤ x
  · by_cases h2 : 0 ≤ n
    · go_enter Tryz.func68, Tryz.ntmps68
      go_wp2
      go_ret
      exact ⟨by simp [inB, h1, h2], rfl⟩
    · go_enter Tryz.func68, Tryz.ntmps68
      go_wp2
      go_ret
      exact ⟨by simp [inB]; omega, rfl⟩
  · go_enter Tryz.func68, Tryz.ntmps68
    go_wp2
    go_ret
    exact ⟨by simp [inB]; omega, rfl⟩

set_option maxRecDepth 20000 in
theorem size_any {w : World} {B a b : Nat} {bs : List UInt8} {v : Value} {ss : List Sp} (h : Ar w 128 B a b bs v ss) :
    Calls Tryz.prog 25 #[.pointer (some ⟨a, 0, none⟩)] w fun e w' => e = .returned (.int .i64 bs.length) ∧ w' = w := by
  have c0 := h.c0
  clear h
  go_enter Tryz.func25, Tryz.ntmps25
  go_wp2
  go_ret
  exact ⟨rfl, rfl⟩

/-- What a note leaves: one span more, in memory of the arena's own. -/
def Noted (w w' : World) (T : TypeId) (B a b : Nat) (bs : List UInt8) (v : Value) (ss : List Sp) : Prop :=
  ∃ v', Ar w' T B a b bs v' ss ∧ Fr (fun y => y = a ∨ y = b ∨ v.ownBlock = some y) w w' ∧ (∀ y, v'.ownBlock = some y → v.ownBlock = some y ∨ w.heap.size ≤ y)

set_option maxRecDepth 20000 in
set_option maxHeartbeats 400000 in
theorem note_pos {w : World} {B a b : Nat} {bs : List UInt8} {v : Value} {ss : List Sp} (h : Ar w 128 B a b bs v ss) (x n : Int) (wr : Bool) (hk : ss.length ≤ 1000000) (hn : 0 < n) :
    Calls Tryz.prog 69 #[.pointer (some ⟨a, 0, none⟩), .int .i64 x, .int .i64 n, .bool wr] w fun e w' => e = .returned (.tuple #[]) ∧
      Noted w w' 128 B a b bs v (ss ++ [(x, n, wr)]) := by
  have c1 := h.c1
  have f1 := h.f1
  obtain ⟨i0, hi, hz0, hz1, hz2⟩ := info_parts Tryz.info58
  have hlB := h.lB
  have hla := h.la
  go_enter Tryz.func69, Tryz.ntmps69
  go_wp2_with (at_builtin; refine wpList_append_sep rfl (.tmp 14) (.tmp 19) 66 rfl B 83 i0 (.agg #[.int .i64 0, .int .i64 0, .bool false]) 3 24 Tryz.underlying66 hi hz0 hz1 hz2 rfl (by decide) _ _ _ rfl (h.tr.alloc _) ⟨w.heap.size, 0, none⟩ 1 1 (by decide) [.int .i64 x, .int .i64 n, .bool wr] rfl rfl ?c1 ?c2 ?c3 ?c4 ?c5 ?_)
  case c1 =>
    intro j u hj
    match j, hj with
    | 0, hj => simp at hj; subst hj; simp [Addr.add]
    | 1, hj => simp at hj; subst hj; simp [Addr.add]
    | 2, hj => simp at hj; subst hj; simp [Addr.add]
  case c2 => intro u hu; simp at hu; rcases hu with rfl | rfl | rfl <;> rfl
  case c3 => unfold maxLen; omega
  case c4 => omega
  case c5 => simp; omega
  · intro g cap' w1 hown hgrow hsep
    have hfr : Fr (fun y => y = a ∨ y = b ∨ v.ownBlock = some y) w w1 := ((Fr.refl _ w).alloc _).grown hgrow (fun y hy => .inl (.inr (.inr hy)))
    have hva : v.ownBlock ≠ some a := fun e => by have := (h.own a e).1; omega
    have hvb : v.ownBlock ≠ some b := fun e => by have := (h.own b e).1; have := h.lb; omega
    have hst : w1.heap[a]? = some (.cells #[.slice (some ⟨b, 0, none⟩) bs.length bs.length, v] 128 (0, 0)) := by
      rw [hgrow.block a (by simp; omega) (fun e => hva e.symm), Below.heap_alloc _ _ _ (by omega)]; exact h.st
    have hby : w1.heap[b]? = some (.cells (bc bs).toArray 5 (0, 0)) := by
      rw [hgrow.block b (by have := h.lb; simp; omega) (fun e => hvb e.symm), Below.heap_alloc _ _ _ (by have := h.lb; omega)]; exact h.by'
    have k1 : w1.cell? ⟨a, 1, none⟩ = some v := by simp [World.cell?, hst]
    have e1 : w1.frozen? ⟨a, 1, none⟩ = false := by simp [World.frozen?, hst]
    have hsz : w.heap.size + 1 ≤ w1.heap.size := by have := hgrow.size; simpa using this
    have hfresh : ∀ y, some g = some y → v.ownBlock = some y ∨ w.heap.size ≤ y := by
      rintro y hy
      cases hy
      rcases hsep with h1 | h1
      · exact .inl h1
      · right; rw [h1]; simp
    clear c1 f1 hi hz0 hz1 hz2 hsep
    go_wp2
    go_end0
    refine ⟨rfl, _, ⟨heap_setCell_two hst, ?_, by rw [spcs_append, List.length_append]; exact ownsRow_setCell_below hown hla _, h.la, h.lb, h.ab, h.le, ?_, fun e => by simp at e⟩, hfr.setCell (.inl rfl) _, hfresh⟩
    · rw [Below.heap_setCell _ _ _ _ (fun e => h.ab e.symm)]; exact hby
    · simp [World.setCell]; omega

set_option maxRecDepth 20000 in
theorem note_none {w : World} (a : Nat) (x n : Int) (wr : Bool) (hn : ¬ 0 < n) :
    Calls Tryz.prog 69 #[.pointer (some ⟨a, 0, none⟩), .int .i64 x, .int .i64 n, .bool wr] w fun e w' => e = .returned (.tuple #[]) ∧ w' = w := by
  go_enter Tryz.func69, Tryz.ntmps69
  go_wp2
  go_end0
  exact ⟨rfl, rfl⟩

/-- The spans behind a call that names n bytes. -/
def noted (ss : List Sp) (x n : Int) (wr : Bool) : List Sp := if 0 < n then ss ++ [(x, n, wr)] else ss

theorem Noted.same {w : World} {T : TypeId} {B a b : Nat} {bs : List UInt8} {v : Value} {ss : List Sp} (h : Ar w T B a b bs v ss) : Noted w w T B a b bs v ss :=
  ⟨v, h, Fr.refl _ _, fun _ h => .inl h⟩

theorem note_any {w : World} {B a b : Nat} {bs : List UInt8} {v : Value} {ss : List Sp} (h : Ar w 128 B a b bs v ss) (x n : Int) (wr : Bool) (hk : ss.length ≤ 1000000) :
    Calls Tryz.prog 69 #[.pointer (some ⟨a, 0, none⟩), .int .i64 x, .int .i64 n, .bool wr] w fun e w' => e = .returned (.tuple #[]) ∧
      Noted w w' 128 B a b bs v (noted ss x n wr) := by
  by_cases hn : 0 < n
  · simp only [noted, if_pos hn]
    exact note_pos h x n wr hk hn
  · simp only [noted, if_neg hn]
    exact (note_none a x n wr hn).mono fun e w' ⟨he, hw⟩ => ⟨he, by subst hw; exact Noted.same h⟩

set_option maxRecDepth 20000 in
theorem forget_any {w : World} {B a b : Nat} {bs : List UInt8} {v : Value} {ss : List Sp} (h : Ar w 128 B a b bs v ss) :
    Calls Tryz.prog 36 #[.pointer (some ⟨a, 0, none⟩)] w fun e w' => e = .returned (.tuple #[]) ∧ Noted w w' 128 B a b bs v [] := by
  have c1 := h.c1
  have f1 := h.f1
  go_enter Tryz.func36, Tryz.ntmps36
  go_wp2
  go_end0
  refine ⟨rfl, _, ⟨heap_setCell_two h.st, ?_, World.ownsRow_nil _ _ _ _, h.la, h.lb, h.ab, h.le, ?_, fun _ => rfl⟩, (Fr.refl _ _).setCell (.inl rfl) _, fun y hy => by cases hy⟩
  · rw [Below.heap_setCell _ _ _ _ (fun e => h.ab e.symm)]; exact h.by'
  · simpa [World.setCell] using h.lB

set_option maxRecDepth 20000 in
theorem new_bad (x : Int) (w : World) (h : x < 0 ∨ 2097152 < x) :
    Calls Tryz.prog 45 #[.int .i64 x] w fun e w' => e = .returned (.tuple #[.pointer none, .int .i64 12]) ∧ w' = w := by
  rcases h with h | h
  · go_enter Tryz.func45, Tryz.ntmps45
    go_wp2
    go_ret2
    exact ⟨rfl, rfl⟩
  · have h' : ¬ x < 0 := by omega
    go_enter Tryz.func45, Tryz.ntmps45
    go_wp2
    go_ret2
    exact ⟨rfl, rfl⟩

theorem made_bytes (n : Nat) : madeCells #[Value.int .u8 0] n = (bc (List.replicate n 0)).toArray := by
  apply Array.ext'
  rw [toList_madeCells_one]
  simp [bc]

set_option maxRecDepth 20000 in
set_option maxHeartbeats 400000 in
theorem new_ok (n : Nat) (w : World) (h : n ≤ 2097152) :
    Calls Tryz.prog 45 #[.int .i64 n] w fun e w' => e = .returned (.tuple #[.pointer (some ⟨w.heap.size + 1, 0, none⟩), .int .i64 0]) ∧
      Ar w' 128 (w.heap.size + 2) (w.heap.size + 1) w.heap.size (List.replicate n 0) (.slice none 0 0) [] ∧ Fr (fun _ => False) w w' ∧ w'.heap.size = w.heap.size + 2 := by
  obtain ⟨i0, hi, hz0, hz1, hz2⟩ := info_parts Tryz.info5
  have hmk := run_make (P := Tryz.prog) w 65 5 i0 (.int .u8 0) Tryz.underlying65 hi hz0 .i64 .i64 (n : Int) (n : Int) (by omega) (by omega) (by rw [hz2]; omega) (by omega)
  rw [hz1] at hmk
  simp only [Int.toNat_natCast, Nat.mul_one, Value.cells, made_bytes] at hmk
  clear hi hz0 hz1 hz2
  go_enter Tryz.func45, Tryz.ntmps45
  go_wp2
  go_ret2
  refine ⟨by simp, ⟨?_, ?_, World.ownsRow_nil _ _ _ _, by omega, by omega, by omega, by simpa using h, by simp, fun _ => rfl⟩, ((Fr.refl _ _).alloc _).alloc _, by simp⟩
  · rw [heap_two]; simp
  · rw [heap_one]





theorem Noted.step {w w1 w2 : World} {T : TypeId} {B a b : Nat} {bs' : List UInt8} {v v1 : Value} {ss' : List Sp}
    (f1 : Fr (fun y => y = a ∨ y = b ∨ v.ownBlock = some y) w w1) (r1 : ∀ y, v1.ownBlock = some y → v.ownBlock = some y ∨ w.heap.size ≤ y) (h' : Noted w1 w2 T B a b bs' v1 ss') : Noted w w2 T B a b bs' v ss' := by
  obtain ⟨v2, h2, f2, r2⟩ := h'
  refine ⟨v2, h2, f1.trans' f2 ?_, ?_⟩
  · intro i hi hs
    rcases hs with hs | hs | hs
    · exact .inl hs
    · exact .inr (.inl hs)
    · rcases r1 i hs with h | h
      · exact .inr (.inr h)
      · omega
  · intro y hy
    rcases r2 y hy with h | h
    · exact r1 y h
    · right; have := f1.size; omega
theorem Noted.behindRow {w w2 : World} {T : TypeId} {B a b : Nat} {bs' : List UInt8} {v : Value} {ss' : List Sp} {c : Array Value} (h : Noted (w.setRow b c) w2 T B a b bs' v ss') : Noted w w2 T B a b bs' v ss' := by
  obtain ⟨v', h1, f1, r1⟩ := h
  refine ⟨v', h1, ((Fr.refl _ w).setRow (g := b) (.inr (.inl rfl)) c).trans f1, fun y hy => ?_⟩
  have := r1 y hy
  simpa [World.setRow] using this


/-- Bytes laid over others. -/
def over (bs : List UInt8) (p : Nat) (ds : List UInt8) : List UInt8 := bs.take p ++ ds ++ bs.drop (p + ds.length)
theorem over_length (bs : List UInt8) (p : Nat) (ds : List UInt8) (h : p + ds.length ≤ bs.length) : (over bs p ds).length = bs.length := by
  simp [over]; omega

theorem Tryz.size5 : (Tryz.prog.info? 5).map (·.size) = some 1 := by kernel_rfl






set_option maxRecDepth 20000 in
set_option maxHeartbeats 400000 in
theorem zero_pos {w : World} {B a b : Nat} {bs : List UInt8} {v : Value} {ss : List Sp} (h : Ar w 128 B a b bs v ss) (p m : Nat) (hin : p + m ≤ bs.length) (hm : 0 < m) (hk : ss.length ≤ 1000000) :
    Calls Tryz.prog 204 #[.pointer (some ⟨a, 0, none⟩), .int .i64 p, .int .i64 m] w fun e w' => e = .returned (.int .i64 0) ∧
      Noted w w' 128 B a b (over bs p (List.replicate m 0)) v (noted ss p m true) := by
  have hle := h.le
  have ht := there_any h p m (by omega)
  rw [inB_true.2 ⟨by omega, by omega, by omega⟩] at ht
  have Ht : Hid (Calls Tryz.prog 68 #[.pointer (some ⟨a, 0, none⟩), .int .i64 p, .int .i64 m] w fun e w' => e = .returned (.bool true) ∧ w' = w) := ht
  clear ht
  have c0 := h.c0
  obtain ⟨i0, hi, hz0, hz1, hz2⟩ := info_parts Tryz.info5
  have hov : (over bs p (List.replicate m 0)).length = bs.length := over_length _ _ _ (by simpa using hin)
  have hcp := fun ty cap => run_clear_row (P := Tryz.prog) 65 ty 5 i0 Tryz.underlying65 hi hz0 h.by' p m cap hm hin
  have hrow : bs.take p ++ List.replicate m 0 ++ bs.drop (p + m) = over bs p (List.replicate m 0) := by simp [over]
  rw [hrow] at hcp
  have h2 := h.setRow _ hov
  have HNote : Hid (Calls Tryz.prog 69 #[.pointer (some ⟨a, 0, none⟩), .int .i64 p, .int .i64 m, .bool true] (w.setRow b (bc (over bs p (List.replicate m 0))).toArray) fun e w' => e = .returned (.tuple #[]) ∧
      Noted (w.setRow b (bc (over bs p (List.replicate m 0))).toArray) w' 128 B a b (over bs p (List.replicate m 0)) v (noted ss p m true)) := note_any h2 p m true hk
  clear hrow hov h h2 hi hz0 hz1 hz2
  generalize over bs p (List.replicate m 0) = nb at *
  go_enter Tryz.func204, Tryz.ntmps204
  go_wp2
  go_step3
  go_wp2_with fail
  refine Ht.out.mono ?_
  rintro e w' ⟨rfl, hw⟩
  obtain rfl := hw.symm
  go_wp2_with fail
  refine HNote.out.mono ?_
  rintro e w1 ⟨rfl, hn⟩
  clear hcp c0
  go_wp2
  rw [Exit.noGoto_ret]
  go_ret
  exact ⟨rfl, hn.behindRow⟩

set_option maxRecDepth 20000 in
set_option maxHeartbeats 400000 in
theorem zero_none {w : World} {B a b : Nat} {bs : List UInt8} {v : Value} {ss : List Sp} (h : Ar w 128 B a b bs v ss) (p : Nat) (hin : p ≤ bs.length) :
    Calls Tryz.prog 204 #[.pointer (some ⟨a, 0, none⟩), .int .i64 p, .int .i64 0] w fun e w' => e = .returned (.int .i64 0) ∧ w' = w := by
  have hle := h.le
  have ht := there_any h p 0 (by omega)
  rw [inB_true.2 ⟨by omega, by omega, by omega⟩] at ht
  have Ht : Hid (Calls Tryz.prog 68 #[.pointer (some ⟨a, 0, none⟩), .int .i64 p, .int .i64 0] w fun e w' => e = .returned (.bool true) ∧ w' = w) := ht
  clear ht
  have c0 := h.c0
  have hcp := fun ty a cap => run_clear_none (P := Tryz.prog) (w := w) 65 ty 5 Tryz.underlying65 a cap
  clear h
  by_cases hp : p = bs.length
  · subst hp
    go_enter Tryz.func204, Tryz.ntmps204
    go_wp2
    go_step3
    go_wp2_with fail
    refine Ht.out.mono ?_
    rintro e w' ⟨rfl, hw⟩
    obtain rfl := hw.symm
    go_wp2_with fail
    refine (note_none a _ 0 true (by omega)).mono ?_
    rintro e w' ⟨rfl, hw⟩
    obtain rfl := hw.symm
    go_wp2
    rw [Exit.noGoto_ret]
    go_ret
    exact ⟨rfl, rfl⟩
  · have hp' : p < bs.length := by omega
    go_enter Tryz.func204, Tryz.ntmps204
    go_wp2
    go_step3
    go_wp2_with fail
    refine Ht.out.mono ?_
    rintro e w' ⟨rfl, hw⟩
    obtain rfl := hw.symm
    go_wp2_with fail
    refine (note_none a p 0 true (by omega)).mono ?_
    rintro e w' ⟨rfl, hw⟩
    obtain rfl := hw.symm
    go_wp2
    rw [Exit.noGoto_ret]
    go_ret
    exact ⟨rfl, rfl⟩

theorem zero_ok {w : World} {B a b : Nat} {bs : List UInt8} {v : Value} {ss : List Sp} (h : Ar w 128 B a b bs v ss) (p m : Nat) (hin : p + m ≤ bs.length) (hk : ss.length ≤ 1000000) :
    Calls Tryz.prog 204 #[.pointer (some ⟨a, 0, none⟩), .int .i64 p, .int .i64 m] w fun e w' => e = .returned (.int .i64 0) ∧
      Noted w w' 128 B a b (over bs p (List.replicate m 0)) v (noted ss p m true) := by
  by_cases hm : 0 < m
  · exact zero_pos h p m hin hm hk
  · obtain rfl : m = 0 := by omega
    exact (zero_none h p (by omega)).mono fun e w' ⟨he, hw⟩ => ⟨he, by subst hw; simpa [noted, over] using Noted.same h⟩





end Go.Proofs.YtihaifnenjngpaaGreatDoor.An

namespace Go.Proofs.YtihaifnenjngpaaGreatDoor.An
open Go.RowKit



/-- The number that bytes are, the lowest ones first. -/
def word : List UInt8 → Nat
  | [] => 0
  | x :: r => x.toNat + 256 * word r
theorem word_snoc : ∀ (l : List UInt8) (x : UInt8), word (l ++ [x]) = word l + x.toNat * 256 ^ l.length
  | [], x => by simp [word]
  | y :: l, x => by
    simp only [List.cons_append, word, word_snoc l x, List.length_cons, Nat.pow_succ, Nat.mul_add]
    rw [← Nat.add_assoc]
    congr 1
    rw [← Nat.mul_assoc, Nat.mul_comm 256, Nat.mul_assoc, Nat.mul_comm 256]
theorem word_lt : ∀ l : List UInt8, word l < 256 ^ l.length
  | [] => by simp [word]
  | x :: l => by
    have h := word_lt l
    have hx : x.toNat < 256 := x.toNat_lt
    simp only [word, List.length_cons, Nat.pow_succ]
    omega
/-- The n lowest bytes of a number. -/
def leb (u n : Nat) : List UInt8 := (List.range n).map fun i => UInt8.ofNat (u / 256 ^ i % 256)
theorem leb_length (u n : Nat) : (leb u n).length = n := by simp [leb]
theorem leb_succ (u n : Nat) : leb u (n + 1) = leb u n ++ [UInt8.ofNat (u / 256 ^ n % 256)] := by
  simp [leb, List.range_succ]
theorem word_leb (u : Nat) : ∀ n, word (leb u n) = u % 256 ^ n
  | 0 => by simp [leb, word, Nat.mod_one]
  | n + 1 => by
    rw [leb_succ, word_snoc, word_leb u n, leb_length, Nat.pow_succ, Nat.mod_mul]
    have h : (UInt8.ofNat (u / 256 ^ n % 256)).toNat = u / 256 ^ n % 256 := by
      simp
    rw [h, Nat.mul_comm]
theorem or_step (l : List UInt8) (x : UInt8) (h : l.length < 8) : bits BinOp.or IntKind.u64 (word l : Int) (IntKind.u64.wrap (IntKind.u64.wrap (x.toNat : Int) * 2 ^ (8 * l.length))) = (word (l ++ [x]) : Int) := by
  have hx : x.toNat < 256 := x.toNat_lt
  have hl := word_lt l
  have e256 : (256 : Nat) ^ l.length = 2 ^ (8 * l.length) := by rw [Nat.pow_mul]
  have hp : (2 : Nat) ^ (8 * l.length) ≤ 2 ^ 56 := Nat.pow_le_pow_right (by omega) (by omega)
  have hb : x.toNat * 2 ^ (8 * l.length) < 2 ^ 64 := by
    calc x.toNat * 2 ^ (8 * l.length) ≤ 255 * 2 ^ 56 := Nat.mul_le_mul (by omega) hp
      _ < 2 ^ 64 := by decide
  have w1 : IntKind.u64.wrap (x.toNat : Int) = (x.toNat : Int) := by
    rw [show IntKind.u64.wrap (x.toNat : Int) = (x.toNat : Int) % 18446744073709551616 from rfl]
    omega
  have w2 : IntKind.u64.wrap ((x.toNat : Int) * 2 ^ (8 * l.length)) = ((x.toNat * 2 ^ (8 * l.length) : Nat) : Int) := by
    rw [show IntKind.u64.wrap ((x.toNat : Int) * 2 ^ (8 * l.length)) = ((x.toNat : Int) * 2 ^ (8 * l.length)) % 18446744073709551616 from rfl]
    have e : ((x.toNat : Int) * 2 ^ (8 * l.length)) = ((x.toNat * 2 ^ (8 * l.length) : Nat) : Int) := by simp
    rw [e]
    have : x.toNat * 2 ^ (8 * l.length) < 18446744073709551616 := hb
    omega
  rw [w1, w2, u64_or_nat _ _ (by rw [e256] at hl; have : (2 : Nat) ^ 56 < 18446744073709551616 := (by decide); omega) hb, word_snoc, e256, Nat.or_comm, ← Nat.shiftLeft_eq, ← Nat.shiftLeft_add_eq_or_of_lt (by rw [← e256]; exact hl), Nat.add_comm]

theorem load_step (bs : List UInt8) (p j : Nat) (hj : j < 8) (hin : p + 8 ≤ bs.length) :
    bits BinOp.or IntKind.u64 (word ((bs.drop p).take j) : Int) (IntKind.u64.wrap (IntKind.u64.wrap ((bs[p + j]'(by omega)).toNat : Int) * 2 ^ (8 * j))) = (word ((bs.drop p).take (j + 1)) : Int) := by
  have hlen : ((bs.drop p).take j).length = j := by simp; omega
  have h1 := or_step ((bs.drop p).take j) (bs[p + j]'(by omega)) (by omega)
  rw [hlen] at h1
  rw [h1, List.take_add_one]
  simp [List.getElem?_drop, show p + j < bs.length by omega]

set_option maxRecDepth 20000 in
set_option maxHeartbeats 400000 in
theorem load_ok {w : World} {B a b : Nat} {bs : List UInt8} {v : Value} {ss : List Sp} (h : Ar w 128 B a b bs v ss) (p : Nat) (hin : p + 8 ≤ bs.length) (hk : ss.length ≤ 1000000) :
    Calls Tryz.prog 236 #[.pointer (some ⟨a, 0, none⟩), .int .i64 p] w fun e w' => e = .returned (.tuple #[.int .u64 (word ((bs.drop p).take 8)), .int .i64 0]) ∧
      Noted w w' 128 B a b bs v (ss ++ [((p : Int), (8 : Int), false)]) := by
  have hle := h.le
  have Ht : Hid (Calls Tryz.prog 68 #[.pointer (some ⟨a, 0, none⟩), .int .i64 p, .int .i64 8] w fun e w' => e = .returned (.bool true) ∧ w' = w) := by
    have ht := there_any h p 8 (by omega)
    rw [inB_true.2 ⟨by omega, by omega, by omega⟩] at ht
    exact ht
  have c0 := h.c0
  have HN : Hid (Calls Tryz.prog 69 #[.pointer (some ⟨a, 0, none⟩), .int .i64 p, .int .i64 8, .bool false] w fun e w' => e = .returned (.tuple #[]) ∧
      Noted w w' 128 B a b bs v (ss ++ [((p : Int), (8 : Int), false)])) := note_pos h p 8 false hk (by omega)
  have hcells : Hid (∀ j (hj : p + j < bs.length), w.cell? ⟨b, p + j, none⟩ = some (.int .u8 ((bs[p + j]'hj).toNat : Int))) := fun j hj => row_cell h.by' (p + j) hj
  clear h
  go_enter Tryz.func236, Tryz.ntmps236
  go_wp2
  go_step3
  go_wp2_with fail
  refine Ht.out.mono ?_
  rintro e w' ⟨rfl, hw⟩
  obtain rfl := hw.symm
  clear Ht
  go_wp2
  go_loop [6, 7, 14] (fun acc _ i => ∃ j : Nat, j ≤ 8 ∧ i = .int .i64 j ∧ acc = .int .u64 (word ((bs.drop p).take j))) (fun _ _ i => 8 - (intOf i).toNat)
  case atStart => exact ⟨0, by omega, rfl, rfl⟩
  case round =>
    obtain ⟨j, hj, rfl, rfl⟩ := hrel
    by_cases hlt : j < 8
    · have hc := hcells.out j (by omega)
      have hst := load_step bs p j hlt hin
      have HST : Hid (bits BinOp.or IntKind.u64 (word ((bs.drop p).take j) : Int) (IntKind.u64.wrap (IntKind.u64.wrap ((bs[p + j]'(by omega)).toNat : Int) * 2 ^ (8 * j))) = (word ((bs.drop p).take (j + 1)) : Int)) := hst
      clear hst
      generalize word ((bs.drop p).take j) = u at *
      go_wp2
      go_round
      case rel => exact ⟨j + 1, by omega, by go_num, by rw [HST.out]⟩
      case measure => simp [intOf]; omega
    · obtain rfl : j = 8 := by omega
      clear hcells
      go_wp2_with fail
      refine HN.out.mono ?_
      rintro e w1 ⟨rfl, hn⟩
      go_wp2
      rw [Exit.noGoto_ret]
      go_ret2
      exact ⟨rfl, hn⟩

theorem over_step (bs : List UInt8) (p : Nat) (l : List UInt8) (x : UInt8) (h : p + l.length < bs.length) : (over bs p l).set (p + l.length) x = over bs p (l ++ [x]) := by
  have e : bs.drop (p + l.length) = bs[p + l.length] :: bs.drop (p + (l ++ [x]).length) := by
    rw [List.drop_eq_getElem_cons h]; simp [Nat.add_assoc]
  have hl : (bs.take p ++ l).length = p + l.length := by simp; omega
  unfold over
  rw [e, List.set_append_right _ _ (by omega), hl, Nat.sub_self, List.set_cons_zero]
  simp
theorem bc_set (l : List UInt8) (i : Nat) (x : UInt8) : (bc l).toArray.setIfInBounds i (.int .u8 (x.toNat : Int)) = (bc (l.set i x)).toArray := by
  simp [bc, List.map_set]
theorem Ar.setByte {w : World} {T : TypeId} {B a b : Nat} {bs : List UInt8} {v : Value} {ss : List Sp} (h : Ar w T B a b bs v ss) (i : Nat) (x : UInt8) : Ar (w.setCell ⟨b, i, none⟩ (.int .u8 (x.toNat : Int))) T B a b (bs.set i x) v ss := by
  rw [setCell_eq_setRow w b i _ _ _ _ h.by', bc_set]
  exact h.setRow _ (by simp)
theorem store_round {w : World} {T : TypeId} {B a b : Nat} {bs : List UInt8} {v : Value} {ss : List Sp} {p u j : Nat} (h : Ar w T B a b (over bs p (leb u j)) v ss) (hj : p + j < bs.length) :
    Ar (w.setCell ⟨b, p + j, none⟩ (.int .u8 ((u : Int) / 2 ^ (8 * j) % 256))) T B a b (over bs p (leb u (j + 1))) v ss := by
  have e : ((u : Int) / 2 ^ (8 * j) % 256) = (((UInt8.ofNat (u / 256 ^ j % 256)).toNat : Nat) : Int) := by
    have e1 : (256 : Nat) ^ j = 2 ^ (8 * j) := by rw [Nat.pow_mul]
    rw [e1]
    simp
  have h2 := h.setByte (p + j) (UInt8.ofNat (u / 256 ^ j % 256))
  rw [← e] at h2
  have h3 := over_step bs p (leb u j) (UInt8.ofNat (u / 256 ^ j % 256)) (by rw [leb_length]; exact hj)
  rw [leb_length, ← leb_succ] at h3
  rw [h3] at h2
  exact h2

set_option maxRecDepth 20000 in
set_option maxHeartbeats 400000 in
theorem store_ok {w : World} {B a b : Nat} {bs : List UInt8} {v : Value} {ss : List Sp} (h : Ar w 128 B a b bs v ss) (p u : Nat) (_hu : u < 18446744073709551616) (hin : p + 8 ≤ bs.length) (hk : ss.length ≤ 1000000) :
    Calls Tryz.prog 225 #[.pointer (some ⟨a, 0, none⟩), .int .i64 p, .int .u64 u] w fun e w' => e = .returned (.int .i64 0) ∧
      Noted w w' 128 B a b (over bs p (leb u 8)) v (ss ++ [((p : Int), (8 : Int), true)]) := by
  have hle := h.le
  have Ht : Hid (Calls Tryz.prog 68 #[.pointer (some ⟨a, 0, none⟩), .int .i64 p, .int .i64 8] w fun e w' => e = .returned (.bool true) ∧ w' = w) := by
    have ht := there_any h p 8 (by omega)
    rw [inB_true.2 ⟨by omega, by omega, by omega⟩] at ht
    exact ht
  go_enter Tryz.func225, Tryz.ntmps225
  go_wp2
  go_step3
  go_wp2_with fail
  refine Ht.out.mono ?_
  rintro e w' ⟨rfl, hw⟩
  obtain rfl := hw.symm
  clear Ht
  go_wp2
  go_loopw [7, 14] (fun _ i wr => ∃ j : Nat, j ≤ 8 ∧ i = .int .i64 j ∧ Ar wr 128 B a b (over bs p (leb u j)) v ss ∧ Fr (fun y => y = b) w wr) (fun _ i _ => 8 - (intOf i).toNat)
  case atStart => exact ⟨0, by omega, rfl, by simpa [over, leb] using h, Fr.refl _ _⟩
  case round =>
    obtain ⟨j, hj, rfl, har, hfr⟩ := hrel
    by_cases hlt : j < 8
    · have hl : (over bs p (leb u j)).length = bs.length := over_length _ _ _ (by rw [leb_length]; omega)
      have c0 := har.c0
      rw [hl] at c0
      have hc := row_cell har.by' (p + j) (by rw [hl]; omega)
      have hz := row_frozen har.by' (p + j)
      generalize (over bs p (leb u j))[p + j].toNat = old at hc
      have HA : Hid (Ar wr 128 B a b (over bs p (leb u j)) v ss) := har
      have HF : Hid (Fr (fun y => y = b) w wr) := hfr
      clear har hfr h hl
      go_wp2
      go_region
      go_wp2
      go_roundw
      case rel => exact ⟨j + 1, by omega, by go_num, (store_round HA.out (by omega)).drew, (HF.out.setCell rfl _).drew⟩
      case measure => simp [intOf]; omega
    · obtain rfl : j = 8 := by omega
      have HN : Hid (Calls Tryz.prog 69 #[.pointer (some ⟨a, 0, none⟩), .int .i64 p, .int .i64 8, .bool true] wr fun e w' => e = .returned (.tuple #[]) ∧
        Noted wr w' 128 B a b (over bs p (leb u 8)) v (ss ++ [((p : Int), (8 : Int), true)])) := note_pos har p 8 true hk (by omega)
      have HF : Hid (Fr (fun y => y = b) w wr) := hfr
      clear har hfr h
      go_wp2_with fail
      refine HN.out.mono ?_
      rintro e w1 ⟨rfl, hn⟩
      go_wp2
      rw [Exit.noGoto_ret]
      go_ret
      exact ⟨rfl, Noted.step (HF.out.mono fun _ _ h => .inr (.inl h)) (fun _ h => .inl h) hn⟩
end Go.Proofs.YtihaifnenjngpaaGreatDoor.An
