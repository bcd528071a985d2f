/-
  What the calls of package colour do that ask of one page or of none: contracts, at the landed code.
  What the calls of package colour do to a page.
  A window's colours, each once.
-/
import Derived.Test.YtioplfbkfokkfaaGreatDoorCqShelf
namespace Go.Proofs.YtioplfbkfokkfaaGreatDoor.Cq
open Go.RowKit

set_option maxRecDepth 20000 in
theorem c_check (n k : Int) (w : World) : Calls Tryz.prog 51 #[.agg #[.int .i64 n, .int .i64 k]] w fun e w' => e = .returned (.int .i64 (if Cfg n k then 0 else 12)) ∧ Fr (fun _ => False) w w' := by
  have A := Cf.new w n k
  have c0 := A.c0
  have c1 := A.c1
  clear A
  by_cases h1 : 1 ≤ k
  · by_cases h2 : k ≤ 32
    · by_cases h3 : 1 ≤ n
      · by_cases h4 : n ≤ 4096
        · have hmod : Int.tmod n k = n % k := Int.tmod_eq_emod_of_nonneg (by omega)
          have hz : (k == 0) = false := by simp; omega
          have m0 := Int.emod_nonneg n (show k ≠ 0 by omega)
          have m1 := Int.emod_lt_of_pos n (show 0 < k by omega)
          have hw0 : IntKind.i64.wrap (n % k) = n % k := by rw [IntKind.wrap_i64]; omega
          by_cases h5 : n % k = 0
          · have he : Hid ((if Cfg n k then (0 : Int) else 12) = 0) := if_pos ⟨h1, h2, h3, h4, h5⟩
            generalize (if Cfg n k then (0 : Int) else 12) = v at *
            generalize n % k = q at *
            subst h5
            go_enter Tryz.func51, Tryz.ntmps51
            go_wp2
            go_ret
            exact ⟨by rw [he.out]; simp, (Fr.refl _ _).alloc _⟩
          · have he : Hid ((if Cfg n k then (0 : Int) else 12) = 12) := if_neg fun h => h5 h.2.2.2.2
            have hq : (n % k == 0) = false := by simpa using h5
            generalize (if Cfg n k then (0 : Int) else 12) = v at *
            generalize n % k = q at *
            go_enter Tryz.func51, Tryz.ntmps51
            go_wp2
            go_ret
            exact ⟨by rw [he.out]; simp, (Fr.refl _ _).alloc _⟩
        · have he : Hid ((if Cfg n k then (0 : Int) else 12) = 12) := if_neg fun h => h4 h.2.2.2.1
          generalize (if Cfg n k then (0 : Int) else 12) = v at *
          go_enter Tryz.func51, Tryz.ntmps51
          go_wp2
          go_ret
          exact ⟨by rw [he.out]; simp, (Fr.refl _ _).alloc _⟩
      · have he : Hid ((if Cfg n k then (0 : Int) else 12) = 12) := if_neg fun h => h3 h.2.2.1
        generalize (if Cfg n k then (0 : Int) else 12) = v at *
        go_enter Tryz.func51, Tryz.ntmps51
        go_wp2
        go_ret
        exact ⟨by rw [he.out]; simp, (Fr.refl _ _).alloc _⟩
    · have he : Hid ((if Cfg n k then (0 : Int) else 12) = 12) := if_neg fun h => h2 h.2.1
      generalize (if Cfg n k then (0 : Int) else 12) = v at *
      go_enter Tryz.func51, Tryz.ntmps51
      go_wp2
      go_ret
      exact ⟨by rw [he.out]; simp, (Fr.refl _ _).alloc _⟩
  · have he : Hid ((if Cfg n k then (0 : Int) else 12) = 12) := if_neg fun h => h1 h.1
    generalize (if Cfg n k then (0 : Int) else 12) = v at *
    go_enter Tryz.func51, Tryz.ntmps51
    go_wp2
    go_ret
    exact ⟨by rw [he.out]; simp, (Fr.refl _ _).alloc _⟩
section
variable {w w' : World} {a k : Nat} {Z : Nat → Prop} {has : List Bool}
set_option maxRecDepth 20000 in
theorem c_there (h : Cm w a Z k has) (p : Int) : Calls Tryz.prog 105 #[.pointer (some ⟨a, 0, none⟩), .int .i64 p] w fun e w' => e = .returned (.bool (decide (0 ≤ p ∧ p < has.length))) ∧ ∃ n, w' = w.drewN n := by
  obtain ⟨g, cap, m, A, B, h1, h2, h3, h4, h5, h6, h7⟩ := h
  have c0 := h1.c0
  have c1 := h1.c1
  have hmul : (m : Int) * (k : Int) = (has.length : Int) := by rw [h2]; simp
  have hw0 : IntKind.i64.wrap (has.length : Int) = (has.length : Int) := by rw [IntKind.wrap_i64]; omega
  clear h1 h2 h6 h7
  generalize has.length = n at *
  by_cases hp : 0 ≤ p
  · have hd : decide (0 ≤ p) = true := decide_eq_true hp
    go_enter Tryz.func105, Tryz.ntmps105
    go_wp2
    go_quiet (simp only [hmul, hw0])
    go_wp2
    go_ret
    exact ⟨by simp [hp], nq, rfl⟩
  · have hd : decide (0 ≤ p) = false := decide_eq_false hp
    go_enter Tryz.func105, Tryz.ntmps105
    go_wp2
    go_quiet (fail)
    go_wp2
    go_ret
    exact ⟨by simp; omega, nq, rfl⟩
theorem Cm.drewN (h : Cm w a Z k has) (n : Nat) : Cm (w.drewN n) a Z k has := h.kept ((Fr.refl _ w).drewN n)
set_option maxRecDepth 20000 in
theorem c_colour' (h : Cm w a Z k has) (p : Int) : Calls Tryz.prog 66 #[.pointer (some ⟨a, 0, none⟩), .int .i64 p] w fun e w' => e = .returned (.int .i64 (colI has.length k p)) ∧ ∃ n, w' = w.drewN n := by
  have HT := hid (c_there h p)
  have HD := hid fun n => h.drewN n
  by_cases hp : 0 ≤ p ∧ p < has.length
  · have e1 : Hid (colI has.length k p = ((p.toNat % k : Nat) : Int)) := if_pos hp
    rw [decide_eq_true hp] at HT
    obtain ⟨g, cap, m, A, B, h1, h2, h3, h4, h5, h6, h7⟩ := h
    have c1 := fun n => (h1.kept ((Fr.refl (fun _ => False) w).drewN n)).c1
    obtain ⟨q, rfl⟩ : ∃ q : Nat, p = (q : Int) := ⟨p.toNat, by omega⟩
    have hz : ((k : Int) == 0) = false := by simp; omega
    have hmod : Int.tmod (q : Int) (k : Int) = ((q % k : Nat) : Int) := by rw [Int.tmod_eq_emod_of_nonneg (by omega)]; simp
    have hlt := Nat.mod_lt q h3
    have hw0 : IntKind.i64.wrap ((q % k : Nat) : Int) = ((q % k : Nat) : Int) := by rw [IntKind.wrap_i64]; omega
    rw [Int.toNat_natCast] at e1
    generalize colI has.length k (q : Int) = v at *
    generalize q % k = r at *
    clear h1 h2 h6 h7 hp
    go_enter Tryz.func66, Tryz.ntmps66
    go_wp2_with fail
    refine HT.out.mono ?_
    rintro e w1 ⟨rfl, n1, rfl⟩
    have c1' := c1 n1
    go_wp2
    go_ret
    exact ⟨by rw [e1.out]; simp, n1, rfl⟩
  · have e1 : Hid (colI has.length k p = -1) := if_neg hp
    rw [decide_eq_false hp] at HT
    generalize colI has.length k p = v at *
    clear h hp
    go_enter Tryz.func66, Tryz.ntmps66
    go_wp2_with fail
    refine HT.out.mono ?_
    rintro e w1 ⟨rfl, n1, rfl⟩
    go_wp2
    go_ret
    exact ⟨by rw [e1.out]; simp, n1, rfl⟩
set_option maxRecDepth 20000 in
theorem c_each (h : Cm w a Z k has) : Calls Tryz.prog 68 #[.pointer (some ⟨a, 0, none⟩)] w fun e w' => e = .returned (.int .i64 (has.length / k : Nat)) ∧ Cm w' a Z k has ∧ Fr (fun _ => False) w w' := by
  have HH := hid h
  obtain ⟨g, cap, m, A, B, h1, h2, h3, h4, h5, h6, h7⟩ := h
  have c0 := h1.c0
  have e1 : has.length / k = m := by rw [h2]; exact Nat.mul_div_cancel _ h3
  rw [e1]
  clear h1 h6 h7 h2 e1 h3 h4 h5
  go_enter Tryz.func68, Tryz.ntmps68
  go_wp2
  go_ret
  exact ⟨by simp, HH.out, Fr.refl _ _⟩
end
section
variable {w w' : World} {a k : Nat} {Z : Nat → Prop} {has : List Bool}
set_option maxRecDepth 20000 in
/-- A page's shelf, and which of its numbers it is. -/
theorem c_find (h : Cm w a Z k has) {g cap m : Nat} {A B : Nat → Nat} (h1 : Cj w 3 a (.slice (some ⟨g, 0, none⟩) k cap) m k A B (colL k m has)) (p : Nat) (hp : p < has.length) (hk : 0 < k) (hk2 : k ≤ 32) (h4 : has.length ≤ 4096) : Calls Tryz.prog 197 #[.pointer (some ⟨a, 0, none⟩), .int .i64 p] w fun e w' => e = .returned (.tuple #[.pointer (some ⟨A (p % k), 0, none⟩), .int .i64 (p / k : Nat)]) ∧ ∃ n, w' = w.drewN n := by
  have HT := hid fun n => c_colour' (h.drewN n) p
  rw [show colI has.length k (p : Int) = ((p % k : Nat) : Int) from (if_pos (by omega)).trans (by rw [Int.toNat_natCast])] at HT
  have hlt := Nat.mod_lt p hk
  have c1 := h1.c1
  have cg := h1.cg hlt
  have hz : ((k : Int) == 0) = false := by simp; omega
  have hdiv : Int.tdiv (p : Int) (k : Int) = ((p / k : Nat) : Int) := by rw [Int.tdiv_eq_ediv_of_nonneg (by omega)]; simp
  have hle : p / k ≤ p := Nat.div_le_self _ _
  generalize A (p % k) = x at *
  generalize p % k = r at *
  generalize p / k = q at *
  have hw0 : IntKind.i64.wrap (q : Int) = (q : Int) := by rw [IntKind.wrap_i64]; omega
  clear h h1
  go_enter Tryz.func197, Tryz.ntmps197
  go_wp2_with fail
  go_quiet (first | (go_at_call 66; refine Calls.quiet_of (HT.out _)))
  go_wp2
  go_ret2
  exact ⟨by simp, nq, rfl⟩
end
end Go.Proofs.YtioplfbkfokkfaaGreatDoor.Cq

namespace Go.Proofs.YtioplfbkfokkfaaGreatDoor.Cq
open Go.RowKit

section
variable {w w' : World} {a k : Nat} {Z : Nat → Prop} {has : List Bool}
/-- A page's shelf has turned: so has the map. -/
theorem Cj.page {g cap m : Nat} {A B : Nat → Nat} (h1 : Cj w 3 a (.slice (some ⟨g, 0, none⟩) k cap) m k A B (colL k m has)) (h2 : has.length = m * k) (h3 : 0 < k) (h4 : k ≤ 32) (h5 : has.length ≤ 4096) (h6 : ∀ x, Blk a (.slice (some ⟨g, 0, none⟩) k cap) k A B x → Z x) (h7 : ∀ x, Z x → x < w.heap.size)
    {p : Nat} (hp : p < has.length) (b : Bool) (hs : Sf.Sh w' (A (p % k)) (B (p % k)) ((colL k m has (p % k)).set (p / k) b)) (f : Fr (fun i => i = B (p % k)) w w') : Cm w' a Z k (has.set p b) ∧ Fr Z w w' := by
  have hc := Nat.mod_lt p h3
  refine ⟨⟨g, cap, m, A, B, (h1.turn hc hs f).congr fun i hi => ?_, by simpa using h2, h3, h4, by simpa using h5, h6, fun x hx => by have := h7 x hx; have := f.size; omega⟩, f.mono fun x _ e => h6 x (.inr (.inr ⟨p % k, hc, .inr e⟩))⟩
  rw [colL_set b h3 h2 (by omega) hi]
  unfold upd
  split
  · rename_i e; rw [if_pos e.symm, e]
  · rename_i e; rw [if_neg (fun e2 => e e2.symm)]
theorem getD_in (p : Nat) (hp : p < has.length) : has.getD p true = has.getD p false := by
  rw [List.getD_eq_getElem?_getD, List.getD_eq_getElem?_getD, List.getElem?_eq_getElem hp]; rfl
set_option maxRecDepth 20000 in
theorem c_give (h : Cm w a Z k has) (p : Int) : Calls Tryz.prog 149 #[.pointer (some ⟨a, 0, none⟩), .int .i64 p] w fun e w' => e = .returned (.int .i64 (giE has p)) ∧ Cm w' a Z k (giS has p) ∧ Fr Z w w' := by
  have HH := hid h
  have HT := hid (c_there h p)
  by_cases hp : 0 ≤ p ∧ p < has.length
  · obtain ⟨q, rfl⟩ : ∃ q : Nat, p = (q : Int) := ⟨p.toNat, by omega⟩
    have hq : q < has.length := by omega
    rw [decide_eq_true hp] at HT
    have HC := h
    obtain ⟨g, cap, m, A, B, h1, h2, h3, h4, h5, h6, h7⟩ := h
    have H2 := hid fun n => c_find (HC.drewN n) (h1.kept ((Fr.refl (fun _ => False) w).drewN n)) q hq h3 h4 h5
    have hc := Nat.mod_lt q h3
    have H3 := hid fun n => Sf.s_give ((h1.sh (q % k) hc).drewN n) ((q / k : Nat) : Int)
    have e1 : Hid (Sf.giE (colL k m has (q % k)) ((q / k : Nat) : Int) = giE has (q : Int)) := by
      show _ = _
      unfold Sf.giE giE
      rw [col_hasN h3 h2 hq, if_pos rfl, col_isT h3 h2 hq, getD_in q hq, if_pos hp, Int.toNat_natCast]
    have e2 : Sf.giS (colL k m has (q % k)) ((q / k : Nat) : Int) = (colL k m has (q % k)).set (q / k) false := by
      unfold Sf.giS
      rw [col_hasN h3 h2 hq, if_pos rfl, Int.toNat_natCast]
    have e3 : giS has (q : Int) = has.set q false := by unfold giS; rw [if_pos hp, Int.toNat_natCast]
    have HP := hid fun n (w' : World) => (h1.kept ((Fr.refl (fun _ => False) w).drewN n)).page (Z := Z) (w' := w') h2 h3 h4 h5 h6 h7 hq false
    rw [e2] at H3
    rw [e3]
    generalize (colL k m has (q % k)).set (q / k) false = l at *
    generalize Sf.giE (colL k m has (q % k)) ((q / k : Nat) : Int) = E at *
    generalize A (q % k) = x at *
    generalize q / k = y at *
    clear h1 h6 h7 hp hc h2 h3 h4 h5 hq HC e2 e3 HH
    go_enter Tryz.func149, Tryz.ntmps149
    go_wp2_with fail
    refine HT.out.mono ?_
    rintro e w1 ⟨rfl, n1, rfl⟩
    go_wp2_with fail
    refine (H2.out n1).mono ?_
    rintro e w2 ⟨rfl, n2, rfl⟩
    go_wp2_with fail
    refine (H3.out (n1 + n2)).mono ?_
    rintro e w3 ⟨rfl, hs3, f3⟩
    have HR := hid (HP.out (n1 + n2) w3 hs3 f3)
    clear hs3 f3
    go_wp2
    go_ret
    exact ⟨by rw [← e1.out]; simp, HR.out.1, Fr.trans ((Fr.refl Z w).drewN (n1 + n2)) HR.out.2⟩
  · have e1 : Hid (giE has p = 12) := by show _ = _; unfold giE; rw [if_neg hp]
    have e2 : giS has p = has := by unfold giS; rw [if_neg hp]
    rw [decide_eq_false hp] at HT
    rw [e2]
    generalize giE has p = v at *
    clear h hp e2
    go_enter Tryz.func149, Tryz.ntmps149
    go_wp2_with fail
    refine HT.out.mono ?_
    rintro e w1 ⟨rfl, n1, rfl⟩
    go_wp2
    go_ret
    exact ⟨by rw [e1.out]; simp, HH.out.drewN n1, (Fr.refl _ w).drewN n1⟩
end
end Go.Proofs.YtioplfbkfokkfaaGreatDoor.Cq

namespace Go.Proofs.YtioplfbkfokkfaaGreatDoor.Cq
open Go.RowKit

set_option maxRecDepth 20000 in
theorem idx_any {w : World} {ad : Option Addr} {l : List Int} (cap : Nat) (hl : NumsAt w ad l) (hm : l.length ≤ 100000) (x : Int) : Calls Tryz.prog 106 #[.slice ad l.length cap, .int .i64 x] w fun e w' => (∃ r : Int, e = .returned (.int .i64 r) ∧ (0 ≤ r ↔ x ∈ l)) ∧ w' = w := by
  have HL := hid hl
  clear hl
  go_enter Tryz.func106, Tryz.ntmps106
  go_wp2
  go_loopw [5, 8] (fun _ i wr => ∃ j : Nat, j ≤ l.length ∧ i = .int .i64 j ∧ wr = w ∧ ∀ q (hq : q < j) (hl : q < l.length), l[q] ≠ x) (fun _ i _ => l.length - (intOf i).toNat)
  case atStart => exact ⟨0, by omega, rfl, rfl, fun q hq => by omega⟩
  case round =>
    obtain ⟨j, hj, rfl, hwr, hno⟩ := hrel
    obtain rfl := hwr.symm
    have HN := hid hno
    clear hwr hno
    by_cases hlt : j < l.length
    · obtain ⟨bb, off, rfl, hb, hc⟩ := HL.out j hlt
      have HY : Hid (l[j] = l[j]) := rfl
      by_cases hx : x = l[j]
      · have HE : Hid (x ∈ l) := by show _ ∈ _; rw [hx]; exact List.getElem_mem hlt
        rw [← hx] at hc
        clear hx HY
        go_wp2
        go_ret
        exact ⟨⟨j, by simp, fun _ => HE.out, fun _ => by omega⟩, rfl⟩
      · have HE : Hid (∀ q (hq : q < j + 1) (hl : q < l.length), l[q] ≠ x) := fun q hq hl => by
          by_cases e : q = j
          · subst e; exact fun e => hx e.symm
          · exact HN.out q (by omega) hl
        have hb0 : (x == l[j]) = false := by simpa using hx
        clear hx HY HN
        generalize l[j] = y at *
        go_wp2
        go_roundw
        case rel => exact ⟨j + 1, by omega, by go_num, trivial, HE.out⟩
        case measure => simp [intOf]; omega
    · have HE : Hid (x ∉ l) := fun hx => by
        obtain ⟨q, hq, e⟩ := List.getElem_of_mem hx
        exact HN.out q (by omega) hq e
      clear HN
      go_wp2
      go_ret
      exact ⟨⟨-1, by simp, fun h => by omega, fun h => (HE.out h).elim⟩, rfl⟩
set_option maxRecDepth 20000 in
theorem has_any {w : World} {ad : Option Addr} {l : List Int} (cap : Nat) (hl : NumsAt w ad l) (hm : l.length ≤ 100000) (x : Int) : Calls Tryz.prog 67 #[.slice ad l.length cap, .int .i64 x] w fun e w' => e = .returned (.bool (decide (x ∈ l))) ∧ w' = w := by
  have H1 := hid (idx_any cap hl hm x)
  clear hl
  go_enter Tryz.func67, Tryz.ntmps67
  go_wp2_with fail
  refine H1.out.mono ?_
  rintro e w1 ⟨⟨r, rfl, hr⟩, hw⟩
  obtain rfl := hw.symm
  have HR := hid hr
  clear hr hw
  go_wp2
  go_ret
  refine ⟨?_, rfl⟩
  have := HR.out
  by_cases hx : x ∈ l
  · simp [hx, this.2 hx]
  · have h2 : ¬ 0 ≤ r := fun h => hx (this.1 h)
    simp [hx, h2]
/-- One number is put behind a row of the call's own. -/
theorem push_c {w : World} {ops : Array Oper} {rest : List Oper} {o : Oper} {a : Act} {Q : Exit → Act → World → Prop} (hgd : o.guard = none) (s x : Operand)
    (ho : o.op = .call { callee := .builtin .append, args := #[s, x], argTypes := #[24, 24] })
    (base : Nat) (y : Value) (ys : List Int) (z : Int) (hs : a.eval s = y) (hown : w.ownsRow base 3 1 y ys.length (ic ys))
    (B : Nat) (hx : a.eval x = .slice (some ⟨B, 0, none⟩) 1 1) (hz : w.cell? ⟨B, 0, none⟩ = some (.int .i64 z)) (hl : ys.length < 100000) (hbase : base ≤ w.heap.size)
    (h : ∀ g cap w', w'.ownsRow base 3 1 (.slice (some ⟨g, 0, none⟩) (ys.length + 1) cap) (ys ++ [z]).length (ic (ys ++ [z])) → w.grownBy w' y.ownBlock → wpList Tryz.prog ops Q rest (a.put o.dst (.slice (some ⟨g, 0, none⟩) (ys.length + 1) cap)) w') : wpList Tryz.prog ops Q (o :: rest) a w := by
  obtain ⟨i0, hi, hz0, hz1, hz2⟩ := info_parts Tryz.infoInt
  refine wpList_append_sep hgd s x 24 ho base 3 i0 (.int .i64 0) 1 8 Tryz.underlying24 hi hz0 hz1 hz2 rfl (by decide) y ys.length (ic ys) hs hown ⟨B, 0, none⟩ 1 1 (by decide) [.int .i64 z] hx rfl ?_ ?_ (by unfold maxLen; omega) (by omega) hbase ?_
  · intro j u hj
    match j, hj with
    | 0, hj => simp at hj; subst hj; simpa [Addr.add] using hz
  · intro u hu; simp at hu; subst hu; rfl
  · intro g cap w' hown' hg _
    refine h g cap w' ?_ hg
    rw [show ic (ys ++ [z]) = ic ys ++ [.int .i64 z] by simp [ic], List.length_append]
    exact hown'
/-- A row of the call's own, as a list that lies somewhere new. -/
theorem row_seen {w : World} {base : Nat} {y : Value} {ys : List Int} (h : w.ownsRow base 3 1 y ys.length (ic ys)) : ∃ yad ycap, y = .slice yad ys.length ycap ∧ NumsAt w yad ys ∧ ∀ b off, yad = some ⟨b, off, none⟩ → base ≤ b := by
  rcases h.2 with ⟨e1, e2⟩ | ⟨g, cap, cur, e1, hb, _⟩
  · have e3 : ys = [] := List.eq_nil_of_length_eq_zero e2
    subst e3
    exact ⟨none, 0, e1, fun i hi => by simp at hi, fun b off e => by cases e⟩
  · subst e1
    exact ⟨_, _, rfl, nums_row h, fun b off e => by simp only [Option.some.injEq, Addr.mk.injEq] at e; omega⟩
section
variable {w w' : World} {a k : Nat} {Z : Nat → Prop} {has : List Bool} {ad : Option Addr} {l : List Int}
set_option maxRecDepth 20000 in
set_option maxHeartbeats 1000000 in
theorem c_cols (cap : Nat) (h : Cm w a Z k has) (hl : NumsAt w ad l) (hm : l.length ≤ maxLen) : Calls Tryz.prog 227 #[.pointer (some ⟨a, 0, none⟩), .slice ad l.length cap] w fun e w' => (∃ oad ocap, e = .returned (.slice oad (colsW k l).length ocap) ∧ NumsAt w' oad (colsW k l)) ∧ Fr (fun _ => False) w w' := by
  have hm' : l.length ≤ 9223372036854775807 := hm
  have HL := hid hl
  have HH := hid h
  obtain ⟨hk, hk2⟩ : 0 < k ∧ k ≤ 32 := by obtain ⟨g, c, m, A, B, h1, h2, h3, h4, _⟩ := h; exact ⟨h3, h4⟩
  obtain ⟨g, c, HC⟩ : ∃ g c, Hid (∀ wr, Fr (fun _ => False) w wr → wr.cell? ⟨a, 1, none⟩ = some (.slice (some ⟨g, 0, none⟩) k c)) := by
    obtain ⟨g, c, m, A, B, h1, _⟩ := h
    exact ⟨g, c, fun wr f => (h1.kept f).c1⟩
  clear hl hm h
  go_enter Tryz.func227, Tryz.ntmps227
  go_wp2
  go_loopw [5, 7, 10] (fun y _ i wr => ∃ j : Nat, j ≤ l.length ∧ i = .int .i64 j ∧ wr.ownsRow w.heap.size 3 1 y (colsW k (l.take j)).length (ic (colsW k (l.take j))) ∧ Fr (fun x => w.heap.size ≤ x) w wr) (fun _ _ i _ => l.length - (intOf i).toNat)
  case atStart => exact ⟨0, by omega, rfl, World.ownsRow_nil _ _ _ _, Fr.refl _ _⟩
  case round =>
    obtain ⟨j, hj, rfl, ho, hf⟩ := hrel
    have HO := hid ho
    have HF := hid hf
    clear ho hf
    have c1 := HC.out _ HF.out.new
    by_cases hlt : j < l.length
    · have hst := colsW_take (k := k) hlt
      have hsh := colsW_short k l j hj
      obtain ⟨bb, off, rfl, hb, hc⟩ := HL.out.fr HF.out.new j hlt
      have HS := hid hst
      clear hst
      generalize colsW k (l.take j) = D at *
      generalize l[j] = x at *
      obtain ⟨yad, ycap, rfl, hy, _⟩ := row_seen HO.out
      have H1 := hid (has_any ycap hy (by omega) x)
      clear hy
      by_cases x0 : 0 ≤ x
      · by_cases x1 : x < k
        · by_cases x2 : x ∈ D
          · have e1 : Hid (colsW k (l.take (j + 1)) = D) := HS.out.trans (if_neg fun h => h.2.2 x2)
            rw [decide_eq_true x2] at H1
            go_wp2_with fail
            refine H1.out.mono ?_
            rintro e w1 ⟨rfl, hw⟩
            obtain rfl := hw.symm
            clear hw
            go_wp2
            go_roundw
            case rel => exact ⟨j + 1, by omega, by go_num, by rw [e1.out]; exact HO.out, HF.out⟩
            case measure => simp [intOf]; omega
          · have e1 : Hid (colsW k (l.take (j + 1)) = D ++ [x]) := HS.out.trans (if_pos ⟨x0, x1, x2⟩)
            rw [decide_eq_false x2] at H1
            have hsz := HF.out.size
            go_wp2_with fail
            refine H1.out.mono ?_
            rintro e w1 ⟨rfl, hw⟩
            obtain rfl := hw.symm
            clear hw
            go_wp2_with (at_builtin; refine push_c rfl (.tmp 31) (.tmp 33) rfl w.heap.size _ D x rfl (HO.out.alloc _) _ rfl (by simp) (by omega) (by simp; omega) ?_; intro g2 cap2 w2 ho2 hg2; have HO2 := hid ho2; have HF2 := hid ((HF.out.alloc _).grown hg2 (fun q e => .inl (HO.out.lt q e).1)); clear ho2 hg2)
            go_roundw
            case rel => exact ⟨j + 1, by omega, by go_num, by rw [e1.out]; simpa using HO2.out, HF2.out⟩
            case measure => simp [intOf]; omega
        · have e1 : Hid (colsW k (l.take (j + 1)) = D) := HS.out.trans (if_neg fun h => x1 h.2.1)
          go_wp2
          go_roundw
          case rel => exact ⟨j + 1, by omega, by go_num, by rw [e1.out]; exact HO.out, HF.out⟩
          case measure => simp [intOf]; omega
      · have e1 : Hid (colsW k (l.take (j + 1)) = D) := HS.out.trans (if_neg fun h => x0 h.1)
        go_wp2
        go_roundw
        case rel => exact ⟨j + 1, by omega, by go_num, by rw [e1.out]; exact HO.out, HF.out⟩
        case measure => simp [intOf]; omega
    · obtain rfl : j = l.length := by omega
      rw [List.take_length] at HO
      obtain ⟨yad, ycap, rfl, hy, _⟩ := row_seen HO.out
      have HY := hid hy
      clear hy
      go_wp2
      go_ret
      exact ⟨⟨yad, ycap, by simp, HY.out⟩, HF.out.new⟩
end
end Go.Proofs.YtioplfbkfokkfaaGreatDoor.Cq
