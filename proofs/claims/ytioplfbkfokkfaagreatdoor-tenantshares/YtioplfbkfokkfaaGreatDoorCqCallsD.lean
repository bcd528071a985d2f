/-
  A window's colours, each once.
  What the calls of package colour do over a window.
-/
import Derived.Test.YtioplfbkfokkfaaGreatDoorCqCallsB
namespace Go.Proofs.YtioplfbkfokkfaaGreatDoor.Cq
open Go.RowKit

set_option maxRecDepth 20000 in
theorem idx_any {w : World} {ad : Option Addr} {l : List Int} (cap : Nat) (hl : NumsAt w ad l) (hm : l.length ≤ 100000) (x : Int) : Calls Tryz.prog 106 #[.slice ad l.length cap, .int .i64 x] w fun e w' => (∃ r : Int, e = .returned (.int .i64 r) ∧ (0 ≤ r ↔ x ∈ l)) ∧ w' = w := by
  have HL := hid hl
  clear hl
  go_enter Tryz.func106, Tryz.ntmps106
  go_wp2
  go_loopw [5, 8] (fun _ i wr => ∃ j : Nat, j ≤ l.length ∧ i = .int .i64 j ∧ wr = w ∧ ∀ q (hq : q < j) (hl : q < l.length), l[q] ≠ x) (fun _ i _ => l.length - (intOf i).toNat)
  case atStart => exact ⟨0, by omega, rfl, rfl, fun q hq => by omega⟩
  case round =>
    obtain ⟨j, hj, rfl, hwr, hno⟩ := hrel
    obtain rfl := hwr.symm
    have HN := hid hno
    clear hwr hno
    by_cases hlt : j < l.length
    · obtain ⟨bb, off, rfl, hb, hc⟩ := HL.out j hlt
      have HY : Hid (l[j] = l[j]) := rfl
      by_cases hx : x = l[j]
      · have HE : Hid (x ∈ l) := by show _ ∈ _; rw [hx]; exact List.getElem_mem hlt
        rw [← hx] at hc
        clear hx HY
        go_wp2
        go_ret
        exact ⟨⟨j, by simp, fun _ => HE.out, fun _ => by omega⟩, rfl⟩
      · have HE : Hid (∀ q (hq : q < j + 1) (hl : q < l.length), l[q] ≠ x) := fun q hq hl => by
          by_cases e : q = j
          · subst e; exact fun e => hx e.symm
          · exact HN.out q (by omega) hl
        have hb0 : (x == l[j]) = false := by simpa using hx
        clear hx HY HN
        generalize l[j] = y at *
        go_wp2
        go_roundw
        case rel => exact ⟨j + 1, by omega, by go_num, trivial, HE.out⟩
        case measure => simp [intOf]; omega
    · have HE : Hid (x ∉ l) := fun hx => by
        obtain ⟨q, hq, e⟩ := List.getElem_of_mem hx
        exact HN.out q (by omega) hq e
      clear HN
      go_wp2
      go_ret
      exact ⟨⟨-1, by simp, fun h => by omega, fun h => (HE.out h).elim⟩, rfl⟩
set_option maxRecDepth 20000 in
theorem has_any {w : World} {ad : Option Addr} {l : List Int} (cap : Nat) (hl : NumsAt w ad l) (hm : l.length ≤ 100000) (x : Int) : Calls Tryz.prog 67 #[.slice ad l.length cap, .int .i64 x] w fun e w' => e = .returned (.bool (decide (x ∈ l))) ∧ w' = w := by
  have H1 := hid (idx_any cap hl hm x)
  clear hl
  go_enter Tryz.func67, Tryz.ntmps67
  go_wp2_with fail
  refine H1.out.mono ?_
  rintro e w1 ⟨⟨r, rfl, hr⟩, hw⟩
  obtain rfl := hw.symm
  have HR := hid hr
  clear hr hw
  go_wp2
  go_ret
  refine ⟨?_, rfl⟩
  have := HR.out
  by_cases hx : x ∈ l
  · simp [hx, this.2 hx]
  · have h2 : ¬ 0 ≤ r := fun h => hx (this.1 h)
    simp [hx, h2]
theorem push_c {w : World} {ops : Array Oper} {rest : List Oper} {o : Oper} {a : Act} {Q : Exit → Act → World → Prop} (hgd : o.guard = none) (s x : Operand)
    (ho : o.op = .call { callee := .builtin .append, args := #[s, x], argTypes := #[24, 24] })
    (base : Nat) (y : Value) (ys : List Int) (z : Int) (hs : a.eval s = y) (hown : w.ownsRow base 3 1 y ys.length (ic ys))
    (B : Nat) (hx : a.eval x = .slice (some ⟨B, 0, none⟩) 1 1) (hz : w.cell? ⟨B, 0, none⟩ = some (.int .i64 z)) (hl : ys.length < 100000) (hbase : base ≤ w.heap.size)
    (h : ∀ g cap w', w'.ownsRow base 3 1 (.slice (some ⟨g, 0, none⟩) (ys.length + 1) cap) (ys ++ [z]).length (ic (ys ++ [z])) → w.grownBy w' y.ownBlock → wpList Tryz.prog ops Q rest (a.put o.dst (.slice (some ⟨g, 0, none⟩) (ys.length + 1) cap)) w') : wpList Tryz.prog ops Q (o :: rest) a w := by
  obtain ⟨i0, hi, hz0, hz1, hz2⟩ := info_parts Tryz.infoInt
  refine wpList_append_sep hgd s x 24 ho base 3 i0 (.int .i64 0) 1 8 Tryz.underlying24 hi hz0 hz1 hz2 rfl (by decide) y ys.length (ic ys) hs hown ⟨B, 0, none⟩ 1 1 (by decide) [.int .i64 z] hx rfl ?_ ?_ (by unfold maxLen; omega) (by omega) hbase ?_
  · intro j u hj
    match j, hj with
    | 0, hj => simp at hj; subst hj; simpa [Addr.add] using hz
  · intro u hu; simp at hu; subst hu; rfl
  · intro g cap w' hown' hg _
    refine h g cap w' ?_ hg
    rw [show ic (ys ++ [z]) = ic ys ++ [.int .i64 z] by simp [ic], List.length_append]
    exact hown'
theorem row_seen {w : World} {base : Nat} {y : Value} {ys : List Int} (h : w.ownsRow base 3 1 y ys.length (ic ys)) : ∃ yad ycap, y = .slice yad ys.length ycap ∧ NumsAt w yad ys ∧ ∀ b off, yad = some ⟨b, off, none⟩ → base ≤ b := by
  rcases h.2 with ⟨e1, e2⟩ | ⟨g, cap, cur, e1, hb, _⟩
  · have e3 : ys = [] := List.eq_nil_of_length_eq_zero e2
    subst e3
    exact ⟨none, 0, e1, fun i hi => by simp at hi, fun b off e => by cases e⟩
  · subst e1
    exact ⟨_, _, rfl, nums_row h, fun b off e => by simp only [Option.some.injEq, Addr.mk.injEq] at e; omega⟩
section
variable {w w' : World} {a k : Nat} {Z : Nat → Prop} {has : List Bool} {ad : Option Addr} {l : List Int}
set_option maxRecDepth 20000 in
set_option maxHeartbeats 1000000 in
theorem c_cols (cap : Nat) (h : Cm w a Z k has) (hl : NumsAt w ad l) (hm : l.length ≤ maxLen) : Calls Tryz.prog 227 #[.pointer (some ⟨a, 0, none⟩), .slice ad l.length cap] w fun e w' => (∃ oad ocap, e = .returned (.slice oad (colsW k l).length ocap) ∧ NumsAt w' oad (colsW k l)) ∧ Fr (fun _ => False) w w' := by
  have hm' : l.length ≤ 9223372036854775807 := hm
  have HL := hid hl
  have HH := hid h
  obtain ⟨hk, hk2⟩ : 0 < k ∧ k ≤ 32 := by obtain ⟨g, c, m, A, B, h1, h2, h3, h4, _⟩ := h; exact ⟨h3, h4⟩
  obtain ⟨g, c, HC⟩ : ∃ g c, Hid (∀ wr, Fr (fun _ => False) w wr → wr.cell? ⟨a, 1, none⟩ = some (.slice (some ⟨g, 0, none⟩) k c)) := by
    obtain ⟨g, c, m, A, B, h1, _⟩ := h
    exact ⟨g, c, fun wr f => (h1.kept f).c1⟩
  clear hl hm h
  go_enter Tryz.func227, Tryz.ntmps227
  go_wp2
  go_loopw [5, 7, 10] (fun y _ i wr => ∃ j : Nat, j ≤ l.length ∧ i = .int .i64 j ∧ wr.ownsRow w.heap.size 3 1 y (colsW k (l.take j)).length (ic (colsW k (l.take j))) ∧ Fr (fun x => w.heap.size ≤ x) w wr) (fun _ _ i _ => l.length - (intOf i).toNat)
  case atStart => exact ⟨0, by omega, rfl, World.ownsRow_nil _ _ _ _, Fr.refl _ _⟩
  case round =>
    obtain ⟨j, hj, rfl, ho, hf⟩ := hrel
    have HO := hid ho
    have HF := hid hf
    clear ho hf
    have c1 := HC.out _ HF.out.new
    by_cases hlt : j < l.length
    · have hst := colsW_take (k := k) hlt
      have hsh := colsW_short k l j hj
      obtain ⟨bb, off, rfl, hb, hc⟩ := HL.out.fr HF.out.new j hlt
      have HS := hid hst
      clear hst
      generalize colsW k (l.take j) = D at *
      generalize l[j] = x at *
      obtain ⟨yad, ycap, rfl, hy, _⟩ := row_seen HO.out
      have H1 := hid (has_any ycap hy (by omega) x)
      clear hy
      by_cases x0 : 0 ≤ x
      · by_cases x1 : x < k
        · by_cases x2 : x ∈ D
          · have e1 : Hid (colsW k (l.take (j + 1)) = D) := HS.out.trans (if_neg fun h => h.2.2 x2)
            rw [decide_eq_true x2] at H1
            go_wp2_with fail
            refine H1.out.mono ?_
            rintro e w1 ⟨rfl, hw⟩
            obtain rfl := hw.symm
            clear hw
            go_wp2
            go_roundw
            case rel => exact ⟨j + 1, by omega, by go_num, by rw [e1.out]; exact HO.out, HF.out⟩
            case measure => simp [intOf]; omega
          · have e1 : Hid (colsW k (l.take (j + 1)) = D ++ [x]) := HS.out.trans (if_pos ⟨x0, x1, x2⟩)
            rw [decide_eq_false x2] at H1
            have hsz := HF.out.size
            go_wp2_with fail
            refine H1.out.mono ?_
            rintro e w1 ⟨rfl, hw⟩
            obtain rfl := hw.symm
            clear hw
            go_wp2_with (at_builtin; refine push_c rfl (.tmp 31) (.tmp 33) rfl w.heap.size _ D x rfl (HO.out.alloc _) _ rfl (by simp) (by omega) (by simp; omega) ?_; intro g2 cap2 w2 ho2 hg2; have HO2 := hid ho2; have HF2 := hid ((HF.out.alloc _).grown hg2 (fun q e => .inl (HO.out.lt q e).1)); clear ho2 hg2)
            go_roundw
            case rel => exact ⟨j + 1, by omega, by go_num, by rw [e1.out]; simpa using HO2.out, HF2.out⟩
            case measure => simp [intOf]; omega
        · have e1 : Hid (colsW k (l.take (j + 1)) = D) := HS.out.trans (if_neg fun h => x1 h.2.1)
          go_wp2
          go_roundw
          case rel => exact ⟨j + 1, by omega, by go_num, by rw [e1.out]; exact HO.out, HF.out⟩
          case measure => simp [intOf]; omega
      · have e1 : Hid (colsW k (l.take (j + 1)) = D) := HS.out.trans (if_neg fun h => x0 h.1)
        go_wp2
        go_roundw
        case rel => exact ⟨j + 1, by omega, by go_num, by rw [e1.out]; exact HO.out, HF.out⟩
        case measure => simp [intOf]; omega
    · obtain rfl : j = l.length := by omega
      rw [List.take_length] at HO
      obtain ⟨yad, ycap, rfl, hy, _⟩ := row_seen HO.out
      have HY := hid hy
      clear hy
      go_wp2
      go_ret
      exact ⟨⟨yad, ycap, by simp, HY.out⟩, HF.out.new⟩
end
end Go.Proofs.YtioplfbkfokkfaaGreatDoor.Cq

namespace Go.Proofs.YtioplfbkfokkfaaGreatDoor.Cq
open Go.RowKit

theorem lowI_bounds {l : List Bool} : -1 ≤ Sf.lowI l ∧ Sf.lowI l < l.length ∨ Sf.lowI l = -1 := by
  unfold Sf.lowI; split
  · left; omega
  · right; rfl
theorem loI_bounds (k : Nat) (has : List Bool) (D : List Int) : -1 ≤ loI k has D ∧ loI k has D ≤ has.length := by unfold loI; split <;> omega
theorem colsW_at {k : Nat} {l : List Int} {j : Nat} (h : j < (colsW k l).length) : ∃ c : Nat, (colsW k l)[j] = (c : Int) ∧ c < k ∧ (c : Int) ∉ (colsW k l).take j ∧ (colsW k l).take (j + 1) = (colsW k l).take j ++ [(c : Int)] := by
  obtain ⟨h1, h2, _⟩ := colsW_spec k l l.length (Nat.le_refl _)
  rw [List.take_length] at h1 h2
  have hx := h1 _ (List.getElem_mem h)
  refine ⟨(colsW k l)[j].toNat, by omega, by omega, ?_, ?_⟩
  · rw [show (((colsW k l)[j].toNat : Nat) : Int) = (colsW k l)[j] by omega]
    intro hc
    obtain ⟨i, hi, e⟩ := List.getElem_of_mem hc
    rw [List.getElem_take] at e
    have hi' : i < j := by simp at hi; omega
    exact List.pairwise_iff_getElem.1 h2 i j (by omega) h hi' e
  · rw [List.take_add_one, List.getElem?_eq_getElem h, show (((colsW k l)[j].toNat : Nat) : Int) = (colsW k l)[j] by omega]; rfl
section
variable {w w' : World} {a k : Nat} {Z : Nat → Prop} {has : List Bool} {ad : Option Addr} {l : List Int}
set_option maxRecDepth 20000 in
set_option maxHeartbeats 1000000 in
theorem c_lowest (cap : Nat) (h : Cm w a Z k has) (hl : NumsAt w ad l) (hm : l.length ≤ maxLen) : Calls Tryz.prog 196 #[.pointer (some ⟨a, 0, none⟩), .slice ad l.length cap] w fun e w' => e = .returned (.int .i64 (loI k has l)) ∧ Fr (fun _ => False) w w' := by
  have H1 := hid (c_cols cap h hl hm)
  obtain ⟨g, c, m, A, B, h1, h2, h3, h4, h5, h6, h7⟩ := h
  have HJ := hid h1
  have HL := hid h2
  have hkm : has.length = m * k := h2
  have hsh := colsW_short k l l.length (Nat.le_refl _)
  rw [List.take_length] at hsh
  have e1 : Hid (loI k has l = loI k has (colsW k l)) := by show _ = _; unfold loI; rw [colsW_takP h3]
  clear h1 h2 h6 h7 hl hm
  rw [e1.out]
  clear e1
  go_enter Tryz.func196, Tryz.ntmps196
  go_wp2_with fail
  refine H1.out.mono ?_
  rintro e w1 ⟨⟨oad, ocap, rfl, ho⟩, f1⟩
  have HO := hid ho
  have HF := hid f1
  have HJ1 := hid (HJ.out.kept f1)
  clear ho f1 H1 HJ
  have c1 := HJ1.out.c1
  go_wp2
  go_loopw [5, 7, 8, 9, 14] (fun y _ _ _ i wr => ∃ j : Nat, j ≤ (colsW k l).length ∧ i = .int .i64 j ∧ wr = w1 ∧ y = .int .i64 (loI k has ((colsW k l).take j))) (fun _ _ _ _ i _ => (colsW k l).length - (intOf i).toNat)
  case atStart => exact ⟨0, by omega, rfl, rfl, by rw [List.take_zero, loI_nil]⟩
  case round =>
    obtain ⟨j, hj, rfl, hwr, rfl⟩ := hrel
    obtain rfl := hwr.symm
    clear hwr
    by_cases hlt : j < (colsW k l).length
    · obtain ⟨cc, hcc, hck, hcn, hct⟩ := colsW_at hlt
      obtain ⟨bb, off, rfl, hb, hc⟩ := HO.out j hlt
      rw [hcc] at hc
      have cg := HJ1.out.cg hck
      have H2 := hid (Sf.s_lowest (HJ1.out.sh cc hck) HJ1.out.tab)
      have hst := loI_snoc (D := (colsW k l).take j) HL.out hck
      rw [← hct] at hst
      have HS := hid hst
      clear hst hct hcn hcc
      have hb1 := lowI_bounds (l := colL k m has cc)
      rw [colL_length] at hb1
      have hb2 := loI_bounds k has ((colsW k l).take j)
      obtain ⟨P, hP, hP1⟩ : ∃ P : Int, Sf.lowI (colL k m has cc) * (k : Int) = P ∧ -32 ≤ P ∧ P ≤ 4096 ∧ (0 ≤ Sf.lowI (colL k m has cc) → 0 ≤ P) := by
        refine ⟨_, rfl, ?_⟩
        rcases hb1 with ⟨g1, g2⟩ | g1
        · by_cases g3 : Sf.lowI (colL k m has cc) < 0
          · have : Sf.lowI (colL k m has cc) = -1 := by omega
            rw [this]; omega
          · have q1 := Int.mul_nonneg (show 0 ≤ Sf.lowI (colL k m has cc) by omega) (show (0 : Int) ≤ k by omega)
            have q2 := Int.mul_le_mul_of_nonneg_right (show Sf.lowI (colL k m has cc) ≤ (m : Int) by omega) (show (0 : Int) ≤ k by omega)
            have q3 : (m : Int) * (k : Int) = ((m * k : Nat) : Int) := by simp
            rw [q3, ← hkm] at q2
            omega
        · rw [g1]; omega
      rw [hP] at HS
      generalize A cc = x at *
      generalize Sf.lowI (colL k m has cc) = X at *
      generalize loI k has ((colsW k l).take j) = T at *
      obtain ⟨hP1, hP2, hP3⟩ := hP1
      have hX : X < 4097 := by
        rcases hb1 with ⟨g1, g2⟩ | g1
        · have : (m : Int) ≤ 4096 := by
            have := Nat.le_mul_of_pos_right m h3
            omega
          omega
        · omega
      have hX2 : -1 ≤ X := by omega
      clear hb1 hkm
      have hw1 : IntKind.i64.wrap P = P := by rw [IntKind.wrap_i64]; omega
      by_cases t : 0 ≤ X ∧ (T < 0 ∨ P + cc < T)
      · rw [if_pos t] at HS
        obtain ⟨t0, t1⟩ := t
        by_cases t2 : T < 0
        · clear t1
          go_wp2_with (go_at_call 176; refine H2.out.mono ?_; rintro e w2 ⟨rfl, hw⟩; obtain rfl := hw.symm; clear hw)
          go_roundw
          case rel => exact ⟨j + 1, by omega, by go_num, trivial, by rw [HS.out]⟩
          case measure => simp [intOf]; omega
        · have t3 : P + cc < T := by omega
          clear t1
          go_wp2_with (go_at_call 176; refine H2.out.mono ?_; rintro e w2 ⟨rfl, hw⟩; obtain rfl := hw.symm; clear hw)
          go_roundw
          case rel => exact ⟨j + 1, by omega, by go_num, trivial, by rw [HS.out]⟩
          case measure => simp [intOf]; omega
      · rw [if_neg t] at HS
        by_cases t0 : 0 ≤ X
        · have t2 : ¬ T < 0 := fun h => t ⟨t0, .inl h⟩
          have t3 : ¬ P + cc < T := fun h => t ⟨t0, .inr h⟩
          clear t
          go_wp2_with (go_at_call 176; refine H2.out.mono ?_; rintro e w2 ⟨rfl, hw⟩; obtain rfl := hw.symm; clear hw)
          go_roundw
          case rel => exact ⟨j + 1, by omega, by go_num, trivial, by rw [HS.out]⟩
          case measure => simp [intOf]; omega
        · clear t
          go_wp2_with (go_at_call 176; refine H2.out.mono ?_; rintro e w2 ⟨rfl, hw⟩; obtain rfl := hw.symm; clear hw)
          go_roundw
          case rel => exact ⟨j + 1, by omega, by go_num, trivial, by rw [HS.out]⟩
          case measure => simp [intOf]; omega
    · obtain rfl : j = (colsW k l).length := by omega
      rw [List.take_length]
      go_wp2
      go_ret
      exact ⟨by simp, HF.out⟩
def Off (Z : Nat → Prop) (ad : Option Addr) (l : List Int) : Prop := ∀ b off, ad = some ⟨b, off, none⟩ → 0 < l.length → ¬ Z b
set_option maxRecDepth 20000 in
theorem c_take (cap : Nat) (h : Cm w a Z k has) (hl : NumsAt w ad l) (_ho : Off Z ad l) (hm : l.length ≤ maxLen) : Calls Tryz.prog 148 #[.pointer (some ⟨a, 0, none⟩), .slice ad l.length cap] w fun e w' => e = .returned (.tuple #[.int .i64 (takV k has l), .int .i64 (takE k has l)]) ∧ Cm w' a Z k (takS k has l) ∧ Fr Z w w' := by
  have H1 := hid (c_lowest cap h hl hm)
  have HH := hid h
  have HKP := hid fun (w1 : World) (f : Fr (fun _ => False) w w1) => h.kept f
  clear hl hm
  by_cases hp : takP k has l < has.length
  · have e0 : loI k has l = (takP k has l : Int) := if_pos hp
    have e1 : takV k has l = (takP k has l : Int) := if_pos hp
    have e2 : takE k has l = 0 := if_pos hp
    have e3 : takS k has l = has.set (takP k has l) true := rfl
    have hfree : has.getD (takP k has l) true = false := by
      have hx : meant k has l (takP k has l) = true := by
        rcases low_cases (meant k has l) has.length with ⟨_, h2, _⟩ | ⟨h2, _⟩
        · exact h2
        · unfold takP at hp; omega
      unfold meant at hx
      simpa using (Bool.and_eq_true_iff.1 hx).1
    rw [e0] at H1
    rw [e1, e2, e3]
    clear e0 e1 e2 e3
    generalize takP k has l = q at *
    obtain ⟨g, c, m, A, B, h1, h2, h3, h4, h5, h6, h7⟩ := h
    have HJ := hid h1
    have H2 := hid fun (w1 : World) (f : Fr (fun _ => False) w w1) => c_find (HKP.out w1 f) (HJ.out.kept f) q hp h3 h4 h5
    have hc := Nat.mod_lt q h3
    have H3 := hid fun (w1 : World) (f : Fr (fun _ => False) w w1) => Sf.s_takeAt ((HJ.out.kept f).sh (q % k) hc) ((q / k : Nat) : Int)
    have e1 : Sf.taE (colL k m has (q % k)) ((q / k : Nat) : Int) = 0 := by
      rw [Sf.taE_zero]
      exact ⟨col_hasN h3 h2 hp, by rw [col_isT h3 h2 hp]; exact hfree⟩
    have e2 : Sf.taS (colL k m has (q % k)) ((q / k : Nat) : Int) = (colL k m has (q % k)).set (q / k) true := by
      unfold Sf.taS
      rw [col_hasN h3 h2 hp, if_pos rfl, Int.toNat_natCast]
    have HP := hid fun (w1 w' : World) (f : Fr (fun _ => False) w w1) => (HJ.out.kept f).page (Z := Z) (w' := w') h2 h3 h4 h5 h6 (fun x hx => by have := h7 x hx; have := f.size; omega) hp true
    rw [e1, e2] at H3
    generalize (colL k m has (q % k)).set (q / k) true = l' at *
    generalize A (q % k) = x at *
    generalize q / k = y at *
    have hq : q ≤ 4096 := by omega
    clear h1 h6 h7 hp hc h2 h3 h4 h5 e1 e2 HH HKP HJ hfree
    go_enter Tryz.func148, Tryz.ntmps148
    go_wp2_with fail
    refine H1.out.mono ?_
    rintro e w1 ⟨rfl, f1⟩
    have HF := hid f1
    clear f1 H1
    go_wp2_with fail
    refine (H2.out w1 HF.out).mono ?_
    rintro e w2 ⟨rfl, n2, rfl⟩
    have HF2 := hid (HF.out.drewN n2)
    clear HF
    go_wp2_with fail
    refine (H3.out _ HF2.out).mono ?_
    rintro e w3 ⟨rfl, hs3, f3⟩
    have HR := hid (HP.out _ w3 HF2.out hs3 f3)
    clear hs3 f3
    go_wp2
    go_ret2
    exact ⟨by simp, HR.out.1, Fr.trans (HF2.out.mono fun _ _ e => e.elim) HR.out.2⟩
  · have e0 : loI k has l = -1 := if_neg hp
    have e1 : takV k has l = 0 := if_neg hp
    have e2 : takE k has l = 13 := if_neg hp
    have e3 : takS k has l = has := List.set_eq_of_length_le (by omega)
    rw [e0] at H1
    rw [e1, e2, e3]
    clear e0 e1 e2 e3 h
    go_enter Tryz.func148, Tryz.ntmps148
    go_wp2_with fail
    refine H1.out.mono ?_
    rintro e w1 ⟨rfl, f1⟩
    have HF := hid f1
    clear f1 H1
    go_wp2
    go_ret2
    exact ⟨by simp, HKP.out _ HF.out, HF.out.mono fun _ _ e => e.elim⟩
end
end Go.Proofs.YtioplfbkfokkfaaGreatDoor.Cq
