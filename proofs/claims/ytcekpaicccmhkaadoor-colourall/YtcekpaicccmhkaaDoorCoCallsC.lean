/-
  A window's colours, each once.
-/
import Derived.Test.YtcekpaicccmhkaaDoorCoCallsB
namespace Go.Proofs.YtcekpaicccmhkaaDoor
open Go.RowKit

theorem idx_any {w : World} {ad : Option Addr} {l : List Int} (cap : Nat) (hl : NumsAt w ad l) (hm : l.length ≤ 100000) (x : Int) : Calls Tryd.prog 45 #[.slice ad l.length cap, .int .i64 x] w fun e w' => (∃ r : Int, e = .returned (.int .i64 r) ∧ (0 ≤ r ↔ x ∈ l)) ∧ w' = w := by
  have HL := hid hl
  clear hl
  go_enter Tryd.func45, Tryd.ntmps45
  go_wp2
  go_loopw [5, 8] (fun _ i wr => ∃ j : Nat, j ≤ l.length ∧ i = .int .i64 j ∧ wr = w ∧ ∀ q (hq : q < j) (hl : q < l.length), l[q] ≠ x) (fun _ i _ => l.length - (intOf i).toNat)
  case atStart => exact ⟨0, by omega, rfl, rfl, fun q hq => by omega⟩
  case round =>
    obtain ⟨j, hj, rfl, hwr, hno⟩ := hrel
    obtain rfl := hwr.symm
    have HN := hid hno
    clear hwr hno
    by_cases hlt : j < l.length
    · obtain ⟨bb, off, rfl, hb, hc⟩ := HL.out j hlt
      have HY : Hid (l[j] = l[j]) := rfl
      by_cases hx : x = l[j]
      · have HE : Hid (x ∈ l) := by show _ ∈ _; rw [hx]; exact List.getElem_mem hlt
        rw [← hx] at hc
        clear hx HY
        go_wp2
        go_ret
        exact ⟨⟨j, by simp, fun _ => HE.out, fun _ => by omega⟩, rfl⟩
      · have HE : Hid (∀ q (hq : q < j + 1) (hl : q < l.length), l[q] ≠ x) := fun q hq hl => by
          by_cases e : q = j
          · subst e; exact fun e => hx e.symm
          · exact HN.out q (by omega) hl
        have hb0 : (x == l[j]) = false := by simpa using hx
        clear hx HY HN
        generalize l[j] = y at *
        go_wp2
        go_roundw
        case rel => exact ⟨j + 1, by omega, by go_num, trivial, HE.out⟩
        case measure => simp [intOf]; omega
    · have HE : Hid (x ∉ l) := fun hx => by
        obtain ⟨q, hq, e⟩ := List.getElem_of_mem hx
        exact HN.out q (by omega) hq e
      clear HN
      go_wp2
      go_ret
      exact ⟨⟨-1, by simp, fun h => by omega, fun h => (HE.out h).elim⟩, rfl⟩
theorem has_any {w : World} {ad : Option Addr} {l : List Int} (cap : Nat) (hl : NumsAt w ad l) (hm : l.length ≤ 100000) (x : Int) : Calls Tryd.prog 41 #[.slice ad l.length cap, .int .i64 x] w fun e w' => e = .returned (.bool (decide (x ∈ l))) ∧ w' = w := by
  have H1 := hid (idx_any cap hl hm x)
  clear hl
  go_enter Tryd.func41, Tryd.ntmps41
  go_wp2_with fail
  refine H1.out.mono ?_
  rintro e w1 ⟨⟨r, rfl, hr⟩, hw⟩
  obtain rfl := hw.symm
  have HR := hid hr
  clear hr hw
  go_wp2
  go_ret
  refine ⟨?_, rfl⟩
  have := HR.out
  by_cases hx : x ∈ l
  · simp [hx, this.2 hx]
  · have h2 : ¬ 0 ≤ r := fun h => hx (this.1 h)
    simp [hx, h2]
/-- One number is put behind a row of the call's own. -/
theorem push_c {w : World} {ops : Array Oper} {rest : List Oper} {o : Oper} {a : Act} {Q : Exit → Act → World → Prop} (hgd : o.guard = none) (s x : Operand)
    (ho : o.op = .call { callee := .builtin .append, args := #[s, x], argTypes := #[35, 35] })
    (base : Nat) (y : Value) (ys : List Int) (z : Int) (hs : a.eval s = y) (hown : w.ownsRow base 3 1 y ys.length (ic ys))
    (B : Nat) (hx : a.eval x = .slice (some ⟨B, 0, none⟩) 1 1) (hz : w.cell? ⟨B, 0, none⟩ = some (.int .i64 z)) (hl : ys.length < 100000) (hbase : base ≤ w.heap.size)
    (h : ∀ g cap w', w'.ownsRow base 3 1 (.slice (some ⟨g, 0, none⟩) (ys.length + 1) cap) (ys ++ [z]).length (ic (ys ++ [z])) → w.grownBy w' y.ownBlock → wpList Tryd.prog ops Q rest (a.put o.dst (.slice (some ⟨g, 0, none⟩) (ys.length + 1) cap)) w') : wpList Tryd.prog ops Q (o :: rest) a w := by
  obtain ⟨i0, hi, hz0, hz1, hz2⟩ := info_parts Tryd.infoInt
  refine wpList_append_sep hgd s x 35 ho base 3 i0 (.int .i64 0) 1 8 Tryd.underlying35 hi hz0 hz1 hz2 rfl (by decide) y ys.length (ic ys) hs hown ⟨B, 0, none⟩ 1 1 (by decide) [.int .i64 z] hx rfl ?_ ?_ (by unfold maxLen; omega) (by omega) hbase ?_
  · intro j u hj
    match j, hj with
    | 0, hj => simp at hj; subst hj; simpa [Addr.add] using hz
  · intro u hu; simp at hu; subst hu; rfl
  · intro g cap w' hown' hg _
    refine h g cap w' ?_ hg
    rw [show ic (ys ++ [z]) = ic ys ++ [.int .i64 z] by simp [ic], List.length_append]
    exact hown'
/-- A row of the call's own, as a list that lies somewhere new. -/
theorem row_seen {w : World} {base : Nat} {y : Value} {ys : List Int} (h : w.ownsRow base 3 1 y ys.length (ic ys)) : ∃ yad ycap, y = .slice yad ys.length ycap ∧ NumsAt w yad ys ∧ ∀ b off, yad = some ⟨b, off, none⟩ → base ≤ b := by
  rcases h.2 with ⟨e1, e2⟩ | ⟨g, cap, cur, e1, hb, _⟩
  · have e3 : ys = [] := List.eq_nil_of_length_eq_zero e2
    subst e3
    exact ⟨none, 0, e1, fun i hi => by simp at hi, fun b off e => by cases e⟩
  · subst e1
    exact ⟨_, _, rfl, nums_row h, fun b off e => by simp only [Option.some.injEq, Addr.mk.injEq] at e; omega⟩
section
variable {w w' : World} {a k : Nat} {Z : Nat → Prop} {has : List Bool} {ad : Option Addr} {l : List Int}
set_option maxHeartbeats 1000000 in
theorem c_cols (cap : Nat) (h : Cm w a Z k has) (hl : NumsAt w ad l) (hm : l.length ≤ maxLen) : Calls Tryd.prog 34 #[.pointer (some ⟨a, 0, none⟩), .slice ad l.length cap] w fun e w' => (∃ oad ocap, e = .returned (.slice oad (colsW k l).length ocap) ∧ NumsAt w' oad (colsW k l)) ∧ Fr (fun _ => False) w w' := by
  have hm' : l.length ≤ 9223372036854775807 := hm
  have HL := hid hl
  have HH := hid h
  obtain ⟨hk, hk2⟩ : 0 < k ∧ k ≤ 32 := by obtain ⟨g, c, m, A, B, h1, h2, h3, h4, _⟩ := h; exact ⟨h3, h4⟩
  obtain ⟨g, c, HC⟩ : ∃ g c, Hid (∀ wr, Fr (fun _ => False) w wr → wr.cell? ⟨a, 1, none⟩ = some (.slice (some ⟨g, 0, none⟩) k c)) := by
    obtain ⟨g, c, m, A, B, h1, _⟩ := h
    exact ⟨g, c, fun wr f => (h1.kept f).c1⟩
  clear hl hm h
  go_enter Tryd.func34, Tryd.ntmps34
  go_wp2
  go_loopw [5, 7, 10] (fun y _ i wr => ∃ j : Nat, j ≤ l.length ∧ i = .int .i64 j ∧ wr.ownsRow w.heap.size 3 1 y (colsW k (l.take j)).length (ic (colsW k (l.take j))) ∧ Fr (fun x => w.heap.size ≤ x) w wr) (fun _ _ i _ => l.length - (intOf i).toNat)
  case atStart => exact ⟨0, by omega, rfl, World.ownsRow_nil _ _ _ _, Fr.refl _ _⟩
  case round =>
    obtain ⟨j, hj, rfl, ho, hf⟩ := hrel
    have HO := hid ho
    have HF := hid hf
    clear ho hf
    have c1 := HC.out _ HF.out.new
    by_cases hlt : j < l.length
    · have hst := colsW_take (k := k) hlt
      have hsh := colsW_short k l j hj
      obtain ⟨bb, off, rfl, hb, hc⟩ := HL.out.fr HF.out.new j hlt
      have HS := hid hst
      clear hst
      generalize colsW k (l.take j) = D at *
      generalize l[j] = x at *
      obtain ⟨yad, ycap, rfl, hy, _⟩ := row_seen HO.out
      have H1 := hid (has_any ycap hy (by omega) x)
      clear hy
      by_cases x0 : 0 ≤ x
      · by_cases x1 : x < k
        · by_cases x2 : x ∈ D
          · have e1 : Hid (colsW k (l.take (j + 1)) = D) := HS.out.trans (if_neg fun h => h.2.2 x2)
            rw [decide_eq_true x2] at H1
            go_wp2_with fail
            refine H1.out.mono ?_
            rintro e w1 ⟨rfl, hw⟩
            obtain rfl := hw.symm
            clear hw
            go_wp2
            go_roundw
            case rel => exact ⟨j + 1, by omega, by go_num, by rw [e1.out]; exact HO.out, HF.out⟩
            case measure => simp [intOf]; omega
          · have e1 : Hid (colsW k (l.take (j + 1)) = D ++ [x]) := HS.out.trans (if_pos ⟨x0, x1, x2⟩)
            rw [decide_eq_false x2] at H1
            have hsz := HF.out.size
            go_wp2_with fail
            refine H1.out.mono ?_
            rintro e w1 ⟨rfl, hw⟩
            obtain rfl := hw.symm
            clear hw
            go_wp2_with (at_builtin; refine push_c rfl (.tmp 31) (.tmp 33) rfl w.heap.size _ D x rfl (HO.out.alloc _) _ rfl (by simp) (by omega) (by simp; omega) ?_; intro g2 cap2 w2 ho2 hg2; have HO2 := hid ho2; have HF2 := hid ((HF.out.alloc _).grown hg2 (fun q e => .inl (HO.out.lt q e).1)); clear ho2 hg2)
            go_roundw
            case rel => exact ⟨j + 1, by omega, by go_num, by rw [e1.out]; simpa using HO2.out, HF2.out⟩
            case measure => simp [intOf]; omega
        · have e1 : Hid (colsW k (l.take (j + 1)) = D) := HS.out.trans (if_neg fun h => x1 h.2.1)
          go_wp2
          go_roundw
          case rel => exact ⟨j + 1, by omega, by go_num, by rw [e1.out]; exact HO.out, HF.out⟩
          case measure => simp [intOf]; omega
      · have e1 : Hid (colsW k (l.take (j + 1)) = D) := HS.out.trans (if_neg fun h => x0 h.1)
        go_wp2
        go_roundw
        case rel => exact ⟨j + 1, by omega, by go_num, by rw [e1.out]; exact HO.out, HF.out⟩
        case measure => simp [intOf]; omega
    · obtain rfl : j = l.length := by omega
      rw [List.take_length] at HO
      obtain ⟨yad, ycap, rfl, hy, _⟩ := row_seen HO.out
      have HY := hid hy
      clear hy
      go_wp2
      go_ret
      exact ⟨⟨yad, ycap, by simp, HY.out⟩, HF.out.new⟩
end
end Go.Proofs.YtcekpaicccmhkaaDoor
