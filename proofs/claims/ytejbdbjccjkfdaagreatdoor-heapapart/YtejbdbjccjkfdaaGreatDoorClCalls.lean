/-
  Lists of numbers, more: one more put behind a row, and where it lies; two lists held against each other.
  What the document's own chain does.
  What the document's own chain does: All, Take, Move.
  What the calls of package class answer, each for every number: contracts.
  What the other calls of package class answer, each for every number: contracts.
-/
import Derived.Test.YtejbdbjccjkfdaaGreatDoorLists
import Derived.Deep.QuietTactic
import Derived.BigQuiet
import Derived.LoopTactic
import Derived.Test.YtejbdbjccjkfdaaGreatDoorChMem
import Derived.Deep.RegionHeld3
import Derived.BigRegion
import Derived.Test.YtejbdbjccjkfdaaGreatDoorRows
import Derived.Test.YtejbdbjccjkfdaaGreatDoorBase
import Derived.Test.YtejbdbjccjkfdaaGreatDoorClBase
import Derived.WalkMore
import Derived.Laws.Bits64b
import Derived.Laws.OwnMore
namespace Go.Proofs.YtejbdbjccjkfdaaGreatDoor
open Go.RowKit

def nI (l : List Nat) : List Int := l.map fun n : Nat => (n : Int)
theorem nI_length (l : List Nat) : (nI l).length = l.length := by simp [nI]
theorem nI_snoc (l : List Nat) (x : Nat) : nI (l ++ [x]) = nI l ++ [(x : Int)] := by simp [nI]
/-- One number is put behind a row of the call's own: where the row lies then. -/
theorem push1s {w : World} {ops : Array Oper} {rest : List Oper} {o : Oper} {a : Act} {Q : Exit → Act → World → Prop} (hgd : o.guard = none) (s x : Operand)
    (ho : o.op = .call { callee := .builtin .append, args := #[s, x], argTypes := #[24, 24] })
    (base : Nat) (y : Value) (ys : List Int) (z : Int) (hs : a.eval s = y) (hown : w.ownsRow base 3 1 y ys.length (ic ys))
    (B : Nat) (hx : a.eval x = .slice (some ⟨B, 0, none⟩) 1 1) (hz : w.cell? ⟨B, 0, none⟩ = some (.int .i64 z)) (hl : ys.length < 100000) (hbase : base ≤ w.heap.size)
    (h : ∀ g cap w', w'.ownsRow base 3 1 (.slice (some ⟨g, 0, none⟩) (ys.length + 1) cap) (ys.length + 1) (ic (ys ++ [z])) → w.grownBy w' y.ownBlock → (y.ownBlock = some g ∨ g = w.heap.size) → wpList Tryz.prog ops Q rest (a.put o.dst (.slice (some ⟨g, 0, none⟩) (ys.length + 1) cap)) w') : wpList Tryz.prog ops Q (o :: rest) a w := by
  obtain ⟨i0, hi, hz0, hz1, hz2⟩ := info_parts Tryz.infoInt
  refine wpList_append_sep hgd s x 24 ho base 3 i0 (.int .i64 0) 1 8 Tryz.underlying24 hi hz0 hz1 hz2 rfl (by decide) y ys.length (ic ys) hs hown ⟨B, 0, none⟩ 1 1 (by decide) [.int .i64 z] hx rfl ?_ ?_ (by unfold maxLen; omega) (by omega) hbase ?_
  · intro j u hj
    match j, hj with
    | 0, hj => simp at hj; subst hj; simpa [Addr.add] using hz
  · intro u hu; simp at hu; subst hu; rfl
  · intro g cap w' hown' hg hw
    refine h g cap w' ?_ hg hw
    rw [ic_snoc]
    exact hown'
end Go.Proofs.YtejbdbjccjkfdaaGreatDoor

namespace Go.Proofs.YtejbdbjccjkfdaaGreatDoor
open Go.RowKit
open An

section
variable {w : World} {a c : Nat} {Z : Nat → Prop} {bs : List UInt8} {ss : List Sp} {k : Ck}
theorem Am.b0 {T : TypeId} (h : Am T a bs ss w Z) : ∃ b, w.cell? ⟨a, 0, none⟩ = some (.slice (some ⟨b, 0, none⟩) bs.length bs.length) := by
  obtain ⟨B, b, v, h, _⟩ := h
  exact ⟨b, h.c0⟩
theorem wrapI (x : Int) (h0 : -9223372036854775808 ≤ x) (h1 : x ≤ 9223372036854775807) : IntKind.i64.wrap x = x := by rw [IntKind.wrap_i64]; omega
theorem wrapU (x : Int) (h0 : 0 ≤ x) (h1 : x ≤ 18446744073709551615) : IntKind.u64.wrap x = x := by rw [IntKind.wrap_u64]; omega
/-- Where a block lies, as it is reckoned. -/
theorem Ck.Ok.reck {n : Nat} (h : k.Ok n) (hn : n ≤ 2097152) {x : Nat} (hx : x < k.per) : IntKind.i64.wrap ((x : Int) * (k.unit : Int)) = ((x * k.unit : Nat) : Int) ∧ IntKind.i64.wrap ((k.base : Int) + ((x * k.unit : Nat) : Int)) = (k.pos x : Int) := by
  have h1 := h.at hx
  unfold Ck.pos at h1 ⊢
  generalize e : x * k.unit = m at *
  rw [← Int.natCast_mul, e, wrapI _ (by omega) (by omega), wrapI _ (by omega) (by omega)]
  exact ⟨rfl, by omega⟩
set_option maxRecDepth 20000 in
set_option maxHeartbeats 1000000 in
theorem r_push_ok (q : Rch w c a k) (g : Am 78 a bs ss w Z) (ok : k.Ok bs.length) (nz : ¬ Z c) (hk : ss.length ≤ 1000000) {x : Nat} (hx : x < k.per) : Calls Tryz.prog 184 #[.pointer (some ⟨c, 0, none⟩), .int .i64 x] w fun e w' => e = .returned (.int .i64 0) ∧ ∃ Z', Left 78 Rch w c a Z (over bs (k.pos x) (leb k.hd 8)) (ss ++ [((k.pos x : Int), (8 : Int), true)]) (k.to (x + 1)) Z' w' := by
  have c0 := q.c0
  have c1 := q.c1
  have c2 := q.c2
  have c3 := q.c3
  have c4 := q.c4
  have hh := ok.hd
  have hp := ok.p1
  obtain ⟨r1, r2⟩ := ok.reck g.le hx
  have r3 := wrapI ((k.hd : Int) - 1 + 1) (by omega) (by omega)
  have r4 := wrapU (k.hd : Int) (by omega) (by omega)
  have r5 : (k.hd : Int) - 1 + 1 = k.hd := by omega
  rw [r5] at r3
  have HS : Hid (∀ w0, Fr (fun _ => False) w w0 → Calls Tryz.prog 203 #[.pointer (some ⟨a, 0, none⟩), .int .i64 (k.pos x), .int .u64 k.hd] w0 fun e w' => e = .returned (.int .i64 0) ∧ ∃ Z', Left 78 Rch w c a Z (over bs (k.pos x) (leb k.hd 8)) (ss ++ [((k.pos x : Int), (8 : Int), true)]) k Z' w') :=
    fun w0 f => (rm_store (g.kept f) (k.pos x) k.hd (by omega) (ok.at hx) hk).mono fun e w' ⟨he, Z', h1, h2⟩ => ⟨he, Z', (Left.arena Rch.chain (Rch.chain.carry q f id) nz h1 h2).ahead f⟩
  have hx' : (x : Int) < k.per := by omega
  clear q g ok nz hk hx hh hp r5
  generalize k.pos x = ps at *
  generalize x * k.unit = m at *
  go_enter Tryz.func184, Tryz.ntmps184
  go_wp2_with fail
  go_region_held3 (fun w' => w'.cell? ⟨c, 0, none⟩ = some (.pointer (some ⟨a, 0, none⟩)) ∧ w'.cell? ⟨c, 1, none⟩ = some (.int .i64 k.base) ∧ w'.cell? ⟨c, 2, none⟩ = some (.int .i64 k.unit) ∧ w'.cell? ⟨c, 4, none⟩ = some (.int .i64 ((k.hd : Int) - 1))) (first | go_keep | exact ⟨by assumption, by assumption, by assumption, by assumption⟩) (first | (go_at_call 203; refine (HS.out _ (Fr.refl _ _).drew).mono ?_; rintro e w1 ⟨rfl, Z', hL⟩; have HL := hid hL; have d0 := hL.q.c0; have d1 := hL.q.c1; have d2 := hL.q.c2; have d4 := hL.q.c4; have fz := hL.q.fz; clear hL))
  clear HS c0 c1 c2 c3 c4
  go_wp2
  go_ret
  exact ⟨by simp, Z', HL.out.set (HL.out.q.head (by omega))⟩
end
end Go.Proofs.YtejbdbjccjkfdaaGreatDoor

namespace Go.Proofs.YtejbdbjccjkfdaaGreatDoor
open Go.RowKit
open An

section
variable {w : World} {a c : Nat} {Z : Nat → Prop} {bs : List UInt8} {ss : List Sp} {k : Ck}
/-- Amid All, in memory: the row that grows lies apart from the arena. -/
structure InAll (Q : World → Nat → Nat → Ck → Prop) (T : TypeId) (w : World) (c a : Nat) (Z : Nat → Prop) (bs : List UInt8) (ss : List Sp) (k : Ck) (os : List Nat) (n v : Nat) (t : List Sp) (Zr : Nat → Prop) (y : Value) (wr : World) : Prop where
  amid : Amid k bs ss os n v t
  left : Left T Q w c a Z bs t k Zr wr
  row : wr.ownsRow w.heap.size 3 1 y (nI os).length (ic (nI os))
  apart : ∀ g, y.ownBlock = some g → ¬ Zr g
  t : t.length ≤ ss.length + os.length
theorem InAll.end {Q : World → Nat → Nat → Ck → Prop} {T : TypeId} {n v : Nat} {t : List Sp} {os : List Nat} {Zr : Nat → Prop} {wr : World} {yad : Option Addr} {m ycap : Nat} (h : InAll Q T w c a Z bs ss k os n v t Zr (.slice yad m ycap) wr) : NumsAt wr yad (nI os) ∧ ∀ b off, yad = some ⟨b, off, none⟩ → w.heap.size ≤ b ∧ ¬ Zr b := by
  obtain ⟨yad', ycap', e, h1, h2⟩ := row_list h.row
  simp only [Value.slice.injEq] at e
  obtain ⟨rfl, _, rfl⟩ := e
  exact ⟨h1, fun b off e => ⟨h2 b off e, h.apart b (by rw [e]; rfl)⟩⟩
theorem own_turn {w w' : World} {base : Nat} {v : Value} {S : Nat → Prop} {e : TypeId} {size n : Nat} {xs : List Value} (h : w.ownsRow base e size v n xs) (f : Fr S w w') (hs : ∀ x, v.ownBlock = some x → ¬ S x) : w'.ownsRow base e size v n xs := by
  obtain ⟨h1, h2⟩ := h
  refine ⟨h1, ?_⟩
  rcases h2 with h2 | ⟨g, cap, cur, rfl, hb, hc, rest⟩
  · exact .inl h2
  · exact .inr ⟨g, cap, cur, rfl, hb, by rw [f.block g (Array.getElem?_eq_some_iff.1 hc).1 (hs g rfl)]; exact hc, rest⟩
theorem InAll.grow {Q : World → Nat → Nat → Ck → Prop} (hQ : Chain1 Q) (hc : c < w.heap.size) {T : TypeId} {n v x : Nat} {t : List Sp} {os : List Nat} {Zr : Nat → Prop} {wr w2 : World} {y : Value} (h : InAll Q T w c a Z bs ss k os n v t Zr y wr) {ob : Obj} {g m m2 cap : Nat}
    (hown : w2.ownsRow w.heap.size 3 1 (.slice (some ⟨g, 0, none⟩) m cap) m2 (ic (nI os ++ [(x : Int)]))) (hm : m2 = os.length + 1) (hg : (wr.alloc ob).grownBy w2 y.ownBlock) (hw : y.ownBlock = some g ∨ g = wr.heap.size + 1) :
    Left T Q w c a Z bs t k Zr w2 ∧ w2.ownsRow w.heap.size 3 1 (.slice (some ⟨g, 0, none⟩) m cap) (nI (os ++ [x])).length (ic (nI (os ++ [x]))) ∧ ¬ Zr g ∧ g < w2.heap.size := by
  have hs := h.left.fr.size
  refine ⟨h.left.other hQ hc (S := fun i => y.ownBlock = some i) (((Fr.refl _ wr).alloc ob).grown hg fun k e => .inl e) fun i e => ⟨(h.row.lt i e).1, h.apart i e⟩, ?_, ?_, (hown.lt g rfl).2⟩
  · subst hm; rw [nI_snoc, List.length_append, nI_length]; exact hown
  · rcases hw with e | e
    · exact h.apart g e
    · intro e2
      have := h.left.am.lt g e2
      omega
theorem InAll.next {Q : World → Nat → Nat → Ck → Prop} {T : TypeId} {n x : Nat} {t : List Sp} {os : List Nat} {Zr Z2 : Nat → Prop} {w2 w3 : World} {g m cap : Nat} (hA : Amid k bs ss os (n + 1) (x + 1) t) (hw : wd bs (k.pos x) ≤ k.per) (ht : t.length ≤ ss.length + os.length)
    (h1 : Left T Q w c a Z bs (t ++ [((k.pos x : Int), (8 : Int), false)]) k Z2 w3) (h2 : w2.ownsRow w.heap.size 3 1 (.slice (some ⟨g, 0, none⟩) m cap) (nI (os ++ [x])).length (ic (nI (os ++ [x])))) (h3 : ¬ Zr g ∧ g < w2.heap.size) (h4 : Gw w2 w3 Zr Z2) :
    InAll Q T w c a Z bs ss k (os ++ [x]) n (wd bs (k.pos x)) (t ++ [((k.pos x : Int), (8 : Int), false)]) Z2 (.slice (some ⟨g, 0, none⟩) m cap) w3 := by
  refine ⟨hA.next hw, h1, ?_, fun g' e => ?_, by simp only [List.length_append, List.length_singleton]; omega⟩
  · refine own_turn h2 h4.fr fun x e => ?_
    have : g = x := by simpa [Value.ownBlock] using e
    exact this ▸ h3.1
  · have : g = g' := by simpa [Value.ownBlock] using e
    subst this
    intro e2
    rcases h4.new g e2 with e3 | e3
    · exact h3.1 e3
    · omega
end
end Go.Proofs.YtejbdbjccjkfdaaGreatDoor

namespace Go.Proofs.YtejbdbjccjkfdaaGreatDoor
open Go.RowKit

/-- The table of the small kinds lies in its variable. -/
def Tab (w : World) : Prop := ∀ j : Nat, j < 8 → w.cell? ⟨0, j, none⟩ = some (.int .i64 (unitI j))
theorem Tab.pos {w : World} (h : Tab w) : 0 < w.heap.size := World.block_lt_of_cell? w _ (h 0 (by decide))
theorem Tab.carry {S : Nat → Prop} {w w' : World} (h : Tab w) (hf : Fr S w w') (h0 : ¬ S 0) : Tab w' := fun j hj => by
  rw [World.cell?_of_block (hf.block 0 h.pos h0)]; exact h j hj

set_option maxRecDepth 20000 in
theorem isSmall_any (c : Int) (w : World) : Calls Tryz.prog 96 #[.int .i64 c] w fun e w' => e = .returned (.bool (decide (0 ≤ c ∧ c ≤ 7))) ∧ w' = w := by
  by_cases h0 : 0 ≤ c
  · by_cases h7 : c ≤ 7
    · go_enter Tryz.func96, Tryz.ntmps96
      go_wp2
      go_ret
      exact ⟨by simp; omega, rfl⟩
    · go_enter Tryz.func96, Tryz.ntmps96
      go_wp2
      go_ret
      exact ⟨by simp; omega, rfl⟩
  · go_enter Tryz.func96, Tryz.ntmps96
    go_wp2
    go_ret
    exact ⟨by simp; omega, rfl⟩
set_option maxRecDepth 20000 in
theorem isRun_any (c : Int) (w : World) : Calls Tryz.prog 161 #[.int .i64 c] w fun e w' => e = .returned (.bool (decide (7 < c ∧ c < 24))) ∧ w' = w := by
  by_cases h0 : 7 < c
  · by_cases h7 : c < 24
    · go_enter Tryz.func161, Tryz.ntmps161
      go_wp2
      go_ret
      exact ⟨by simp; omega, rfl⟩
    · go_enter Tryz.func161, Tryz.ntmps161
      go_wp2
      go_ret
      exact ⟨by simp; omega, rfl⟩
  · go_enter Tryz.func161, Tryz.ntmps161
    go_wp2
    go_ret
    exact ⟨by simp; omega, rfl⟩


set_option maxRecDepth 20000 in
theorem of_none (n : Int) (w : World) (h : n < 1 ∨ 8192 < n) : Calls Tryz.prog 14 #[.int .i64 n] w fun e w' => e = .returned (.int .i64 (-1)) ∧ w' = w := by
  by_cases h1 : n < 1
  all_goals
    go_enter Tryz.func14, Tryz.ntmps14
    go_wp2
    refine wp_scope_forward 0 27 w rfl ?first ?pass
    case first =>
      go_wp2
      go_step3
      exact ⟨rfl, rfl, rfl, rfl⟩
    case pass =>
      intro A hd hs
      go_wp2
      rw [jump_ret]
      go_ret
      exact ⟨by simp [hs], rfl⟩
set_option maxRecDepth 20000 in
theorem of_run (n : Int) (w : World) (h1 : 256 < n) (h2 : n ≤ 8192) : Calls Tryz.prog 14 #[.int .i64 n] w fun e w' => e = .returned (.int .i64 (7 + (n + 511) / 512)) ∧ w' = w := by
  go_enter Tryz.func14, Tryz.ntmps14
  go_wp2
  refine wp_scope_jumps 1 (fun a' w' => w' = w ∧ ∃ (u4 u5 u6 u7 u8 u9 u10 u11 u12 u13 u14 u15 u16 u17 u18 u19 u20 u21 u22 u23 u24 u25 u26 : Value), a' = { tmps := #[.int .i64 n, undef, .int .i64 0, .int .i64 0, u4, u5, u6, u7, u8, u9, u10, u11, u12, u13, u14, u15, u16, u17, u18, u19, u20, u21, u22, u23, u24, u25, u26], defers := [] }) (fun _ _ => 0) rfl ?first ?pass
  case first =>
    go_wp2
    go_step3
    exact ⟨rfl, rfl, _, _, _, _, _, _, _, _, _, _, _, _, _, _, _, _, _, _, _, _, _, _, _, rfl⟩
  case pass =>
    rintro a' w' ⟨hw', u4, u5, u6, u7, u8, u9, u10, u11, u12, u13, u14, u15, u16, u17, u18, u19, u20, u21, u22, u23, u24, u25, u26, rfl⟩
    obtain rfl := hw'.symm
    clear hw'
    go_wp2
    rw [jump_ret]
    go_ret
    exact ⟨by go_num, rfl⟩
set_option maxRecDepth 20000 in
theorem of_small (n : Int) (w : World) (hT : Tab w) (h1 : 1 ≤ n) (h2 : n ≤ 256) : Calls Tryz.prog 14 #[.int .i64 n] w fun e w' => e = .returned (.int .i64 (ofI n)) ∧ w' = w := by
  have HT := hid hT
  clear hT
  go_enter Tryz.func14, Tryz.ntmps14
  go_wp2
  refine wp_scope_jumps 2 (fun a' w' => w' = w ∧ ∃ (j : Nat) (u4 u5 u6 u7 u8 u9 u10 u11 u12 u13 u14 u15 u16 u17 u18 u19 u20 u21 u22 u23 u24 u25 u26 : Value), a' = { tmps := #[.int .i64 n, undef, .int .i64 0, .int .i64 j, u4, u5, u6, u7, u8, u9, u10, u11, u12, u13, u14, u15, u16, u17, u18, u19, u20, u21, u22, u23, u24, u25, u26], defers := [] } ∧ j < 8 ∧ Hid (∀ d : Int, 0 ≤ d → d < j → unitI d < n)) (fun a' _ => 8 - (intOf (a'.tmps.getD 3 undef)).toNat) rfl ?first ?pass
  case first =>
    go_wp2
    go_step3
    exact ⟨rfl, rfl, 0, _, _, _, _, _, _, _, _, _, _, _, _, _, _, _, _, _, _, _, _, _, _, _, rfl, by omega, fun d h0 hd => by omega⟩
  case pass =>
    rintro a' w' ⟨hw', j, u4, u5, u6, u7, u8, u9, u10, u11, u12, u13, u14, u15, u16, u17, u18, u19, u20, u21, u22, u23, u24, u25, u26, rfl, hj, hb⟩
    obtain rfl := hw'.symm
    clear hw'
    have cj := HT.out j hj
    by_cases hlt : unitI j < n
    · have hj7 : j < 7 := by
        rcases Nat.lt_or_ge j 7 with h | h
        · exact h
        · obtain rfl : j = 7 := by omega
          have : unitI ((7 : Nat) : Int) = 256 := rfl
          omega
      have hb' : Hid (∀ d : Int, 0 ≤ d → d < ((j + 1 : Nat) : Int) → unitI d < n) := fun d h0 hd => by
        rcases Int.lt_or_le d j with h | h
        · exact hb.out d h0 h
        · obtain rfl : d = j := by omega
          exact hlt
      generalize unitI j = u at *
      go_wp2
      go_step3
      exact ⟨rfl, ⟨rfl, j + 1, _, _, _, _, _, _, _, _, _, _, _, _, _, _, _, _, _, _, _, _, _, _, _, by go_num, by omega, hb'⟩, by simp [intOf]; omega⟩
    · have he : Hid (ofI n = j) := ofI_unique n j h1 (by omega) (by omega) (by omega) hb.out
      generalize unitI j = u at *
      go_wp2
      rw [jump_ret]
      go_ret
      exact ⟨by rw [he.out]; rfl, rfl⟩
theorem of_any (n : Int) (w : World) (hT : Tab w) : Calls Tryz.prog 14 #[.int .i64 n] w fun e w' => e = .returned (.int .i64 (ofI n)) ∧ w' = w := by
  by_cases h : n < 1 ∨ 8192 < n
  · rw [(ofI_none n).2 h]; exact of_none n w h
  · by_cases h2 : n ≤ 256
    · exact of_small n w hT (by omega) h2
    · rw [ofI_run n (by omega) (by omega)]; exact of_run n w (by omega) (by omega)
end Go.Proofs.YtejbdbjccjkfdaaGreatDoor

namespace Go.Proofs.YtejbdbjccjkfdaaGreatDoor
open Go.RowKit

set_option maxRecDepth 20000 in
theorem pages_any (c : Int) (w : World) : Calls Tryz.prog 97 #[.int .i64 c] w fun e w' => e = .returned (.int .i64 (pagesI c)) ∧ w' = w := by
  have HS := hid (isSmall_any c w)
  have HR := hid (isRun_any c w)
  by_cases hs : 0 ≤ c ∧ c ≤ 7
  · have hp : Hid (pagesI c = 1) := show pagesI c = 1 by
      unfold pagesI; repeat' split
      all_goals omega
    rw [decide_eq_true hs] at HS
    go_enter Tryz.func97, Tryz.ntmps97
    go_wp2_with fail
    refine HS.out.mono ?_
    rintro e w' ⟨rfl, hw⟩
    obtain rfl := hw.symm
    go_wp2
    go_ret
    exact ⟨by rw [hp.out]; rfl, rfl⟩
  · rw [decide_eq_false hs] at HS
    by_cases hr : 7 < c ∧ c < 24
    · have hp : Hid (pagesI c = c - 7) := show pagesI c = c - 7 by
        unfold pagesI; repeat' split
        all_goals omega
      rw [decide_eq_true hr] at HR
      go_enter Tryz.func97, Tryz.ntmps97
      go_wp2_with fail
      refine HS.out.mono ?_
      rintro e w' ⟨rfl, hw⟩
      obtain rfl := hw.symm
      go_wp2_with fail
      refine HR.out.mono ?_
      rintro e w' ⟨rfl, hw⟩
      obtain rfl := hw.symm
      go_wp2
      go_ret
      exact ⟨by rw [hp.out]; go_num, rfl⟩
    · have hp : Hid (pagesI c = 0) := show pagesI c = 0 by
        unfold pagesI; repeat' split
        all_goals omega
      rw [decide_eq_false hr] at HR
      go_enter Tryz.func97, Tryz.ntmps97
      go_wp2_with fail
      refine HS.out.mono ?_
      rintro e w' ⟨rfl, hw⟩
      obtain rfl := hw.symm
      go_wp2_with fail
      refine HR.out.mono ?_
      rintro e w' ⟨rfl, hw⟩
      obtain rfl := hw.symm
      go_wp2
      go_ret
      exact ⟨by rw [hp.out]; rfl, rfl⟩
set_option maxRecDepth 20000 in
theorem unit_any (c : Int) (w : World) (hT : Tab w) : Calls Tryz.prog 44 #[.int .i64 c] w fun e w' => e = .returned (.int .i64 (unitI c)) ∧ w' = w := by
  have HS := hid (isSmall_any c w)
  by_cases hs : 0 ≤ c ∧ c ≤ 7
  · rw [decide_eq_true hs] at HS
    obtain ⟨j, rfl⟩ : ∃ j : Nat, c = j := ⟨c.toNat, by omega⟩
    have hj : j < 8 := by omega
    have cj := hT j hj
    generalize unitI j = u at *
    clear hT hs
    go_enter Tryz.func44, Tryz.ntmps44
    go_wp2_with fail
    refine HS.out.mono ?_
    rintro e w' ⟨rfl, hw⟩
    obtain rfl := hw.symm
    go_wp2
    go_ret
    exact ⟨rfl, rfl⟩
  · rw [decide_eq_false hs] at HS
    have HP := hid (pages_any c w)
    have hu : Hid (unitI c = pagesI c * 512) := show unitI c = pagesI c * 512 by
      by_cases hr : 8 ≤ c ∧ c ≤ 23
      · exact (pages_unit c hr.1 hr.2).symm
      · have e1 : pagesI c = 0 := by
          unfold pagesI; repeat' split
          all_goals omega
        have e2 : unitI c = 0 := by
          unfold unitI; repeat' split
          all_goals omega
        rw [e1, e2]; rfl
    have hr : 0 ≤ pagesI c ∧ pagesI c ≤ 16 := by
      unfold pagesI; repeat' split
      all_goals omega
    rw [hu.out]
    generalize pagesI c = p at *
    clear hT hs hu
    go_enter Tryz.func44, Tryz.ntmps44
    go_wp2_with fail
    refine HS.out.mono ?_
    rintro e w' ⟨rfl, hw⟩
    obtain rfl := hw.symm
    go_wp2_with fail
    refine HP.out.mono ?_
    rintro e w' ⟨rfl, hw⟩
    obtain rfl := hw.symm
    go_wp2
    go_ret
    exact ⟨by go_num, rfl⟩
set_option maxRecDepth 20000 in
theorem per_any (c : Int) (w : World) (hT : Tab w) : Calls Tryz.prog 84 #[.int .i64 c] w fun e w' => e = .returned (.int .i64 (perI c)) ∧ w' = w := by
  have HS := hid (isSmall_any c w)
  by_cases hs : 0 ≤ c ∧ c ≤ 7
  · rw [decide_eq_true hs] at HS
    have c0 : w.cell? ⟨0, 0, none⟩ = some (.int .i64 16) := hT 0 (by decide)
    have c1 : w.cell? ⟨0, 1, none⟩ = some (.int .i64 32) := hT 1 (by decide)
    have c2 : w.cell? ⟨0, 2, none⟩ = some (.int .i64 48) := hT 2 (by decide)
    have c3 : w.cell? ⟨0, 3, none⟩ = some (.int .i64 64) := hT 3 (by decide)
    have c4 : w.cell? ⟨0, 4, none⟩ = some (.int .i64 96) := hT 4 (by decide)
    have c5 : w.cell? ⟨0, 5, none⟩ = some (.int .i64 128) := hT 5 (by decide)
    have c6 : w.cell? ⟨0, 6, none⟩ = some (.int .i64 192) := hT 6 (by decide)
    have c7 : w.cell? ⟨0, 7, none⟩ = some (.int .i64 256) := hT 7 (by decide)
    have hc : c = 0 ∨ c = 1 ∨ c = 2 ∨ c = 3 ∨ c = 4 ∨ c = 5 ∨ c = 6 ∨ c = 7 := by omega
    clear hT hs
    rcases hc with rfl | rfl | rfl | rfl | rfl | rfl | rfl | rfl
    all_goals
      go_enter Tryz.func84, Tryz.ntmps84
      go_wp2_with fail
      refine HS.out.mono ?_
      rintro e w' ⟨rfl, hw⟩
      obtain rfl := hw.symm
      go_wp2
      go_ret
      exact ⟨rfl, rfl⟩
  · rw [decide_eq_false hs] at HS
    have hu : Hid (perI c = 0) := show perI c = 0 by
      unfold perI; repeat' split
      all_goals omega
    clear hT hs
    go_enter Tryz.func84, Tryz.ntmps84
    go_wp2_with fail
    refine HS.out.mono ?_
    rintro e w' ⟨rfl, hw⟩
    obtain rfl := hw.symm
    go_wp2
    go_ret
    exact ⟨by rw [hu.out]; rfl, rfl⟩

/-- Where a law that began in w0 stands: no old block has turned, and the table lies there. -/
structure K (w0 w : World) : Prop where
  fr : Fr (fun _ => False) w0 w
  tab : Tab w
theorem K.start {w : World} (h : Tab w) : K w w := ⟨Fr.refl _ _, h⟩
theorem K.on {w0 w w' : World} (h : K w0 w) (f : Fr (fun _ => False) w w') : K w0 w' := ⟨h.fr.trans f, h.tab.carry f id⟩
theorem k_of (n : Int) {w0 w : World} (k : K w0 w) : Calls Tryz.prog 14 #[.int .i64 n] w fun e w' => e = .returned (.int .i64 (ofI n)) ∧ K w0 w' := (of_any n w k.tab).mono fun _ _ ⟨he, hw⟩ => ⟨he, hw ▸ k⟩
theorem k_unit (n : Int) {w0 w : World} (k : K w0 w) : Calls Tryz.prog 44 #[.int .i64 n] w fun e w' => e = .returned (.int .i64 (unitI n)) ∧ K w0 w' := (unit_any n w k.tab).mono fun _ _ ⟨he, hw⟩ => ⟨he, hw ▸ k⟩
theorem k_per (n : Int) {w0 w : World} (k : K w0 w) : Calls Tryz.prog 84 #[.int .i64 n] w fun e w' => e = .returned (.int .i64 (perI n)) ∧ K w0 w' := (per_any n w k.tab).mono fun _ _ ⟨he, hw⟩ => ⟨he, hw ▸ k⟩
theorem k_pages (n : Int) {w0 w : World} (k : K w0 w) : Calls Tryz.prog 97 #[.int .i64 n] w fun e w' => e = .returned (.int .i64 (pagesI n)) ∧ K w0 w' := (pages_any n w).mono fun _ _ ⟨he, hw⟩ => ⟨he, hw ▸ k⟩
end Go.Proofs.YtejbdbjccjkfdaaGreatDoor
