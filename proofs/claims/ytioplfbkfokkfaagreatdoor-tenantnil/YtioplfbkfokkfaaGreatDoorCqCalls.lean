/-
  What the calls of package colour do over a window.
  A pointer to a shelf is put behind a map's shelves.
  Maps that are made: New, Copy.
-/
import Derived.Test.YtioplfbkfokkfaaGreatDoorCqCallsC
import Derived.Test.YtioplfbkfokkfaaGreatDoorCqShelf
import Derived.Deep.RegionLaw
namespace Go.Proofs.YtioplfbkfokkfaaGreatDoor.Cq
open Go.RowKit

theorem lowI_bounds {l : List Bool} : -1 ≤ Sf.lowI l ∧ Sf.lowI l < l.length ∨ Sf.lowI l = -1 := by
  unfold Sf.lowI; split
  · left; omega
  · right; rfl
theorem loI_bounds (k : Nat) (has : List Bool) (D : List Int) : -1 ≤ loI k has D ∧ loI k has D ≤ has.length := by unfold loI; split <;> omega
/-- The j-th colour of a window's. -/
theorem colsW_at {k : Nat} {l : List Int} {j : Nat} (h : j < (colsW k l).length) : ∃ c : Nat, (colsW k l)[j] = (c : Int) ∧ c < k ∧ (c : Int) ∉ (colsW k l).take j ∧ (colsW k l).take (j + 1) = (colsW k l).take j ++ [(c : Int)] := by
  obtain ⟨h1, h2, _⟩ := colsW_spec k l l.length (Nat.le_refl _)
  rw [List.take_length] at h1 h2
  have hx := h1 _ (List.getElem_mem h)
  refine ⟨(colsW k l)[j].toNat, by omega, by omega, ?_, ?_⟩
  · rw [show (((colsW k l)[j].toNat : Nat) : Int) = (colsW k l)[j] by omega]
    intro hc
    obtain ⟨i, hi, e⟩ := List.getElem_of_mem hc
    rw [List.getElem_take] at e
    have hi' : i < j := by simp at hi; omega
    exact List.pairwise_iff_getElem.1 h2 i j (by omega) h hi' e
  · rw [List.take_add_one, List.getElem?_eq_getElem h, show (((colsW k l)[j].toNat : Nat) : Int) = (colsW k l)[j] by omega]; rfl
section
variable {w w' : World} {a k : Nat} {Z : Nat → Prop} {has : List Bool} {ad : Option Addr} {l : List Int}
set_option maxRecDepth 20000 in
set_option maxHeartbeats 1000000 in
theorem c_lowest (cap : Nat) (h : Cm w a Z k has) (hl : NumsAt w ad l) (hm : l.length ≤ maxLen) : Calls Tryz.prog 196 #[.pointer (some ⟨a, 0, none⟩), .slice ad l.length cap] w fun e w' => e = .returned (.int .i64 (loI k has l)) ∧ Fr (fun _ => False) w w' := by
  have H1 := hid (c_cols cap h hl hm)
  obtain ⟨g, c, m, A, B, h1, h2, h3, h4, h5, h6, h7⟩ := h
  have HJ := hid h1
  have HL := hid h2
  have hkm : has.length = m * k := h2
  have hsh := colsW_short k l l.length (Nat.le_refl _)
  rw [List.take_length] at hsh
  have e1 : Hid (loI k has l = loI k has (colsW k l)) := by show _ = _; unfold loI; rw [colsW_takP h3]
  clear h1 h2 h6 h7 hl hm
  rw [e1.out]
  clear e1
  go_enter Tryz.func196, Tryz.ntmps196
  go_wp2_with fail
  refine H1.out.mono ?_
  rintro e w1 ⟨⟨oad, ocap, rfl, ho⟩, f1⟩
  have HO := hid ho
  have HF := hid f1
  have HJ1 := hid (HJ.out.kept f1)
  clear ho f1 H1 HJ
  have c1 := HJ1.out.c1
  go_wp2
  go_loopw [5, 7, 8, 9, 14] (fun y _ _ _ i wr => ∃ j : Nat, j ≤ (colsW k l).length ∧ i = .int .i64 j ∧ wr = w1 ∧ y = .int .i64 (loI k has ((colsW k l).take j))) (fun _ _ _ _ i _ => (colsW k l).length - (intOf i).toNat)
  case atStart => exact ⟨0, by omega, rfl, rfl, by rw [List.take_zero, loI_nil]⟩
  case round =>
    obtain ⟨j, hj, rfl, hwr, rfl⟩ := hrel
    obtain rfl := hwr.symm
    clear hwr
    by_cases hlt : j < (colsW k l).length
    · obtain ⟨cc, hcc, hck, hcn, hct⟩ := colsW_at hlt
      obtain ⟨bb, off, rfl, hb, hc⟩ := HO.out j hlt
      rw [hcc] at hc
      have cg := HJ1.out.cg hck
      have H2 := hid (Sf.s_lowest (HJ1.out.sh cc hck) HJ1.out.tab)
      have hst := loI_snoc (D := (colsW k l).take j) HL.out hck
      rw [← hct] at hst
      have HS := hid hst
      clear hst hct hcn hcc
      have hb1 := lowI_bounds (l := colL k m has cc)
      rw [colL_length] at hb1
      have hb2 := loI_bounds k has ((colsW k l).take j)
      obtain ⟨P, hP, hP1⟩ : ∃ P : Int, Sf.lowI (colL k m has cc) * (k : Int) = P ∧ -32 ≤ P ∧ P ≤ 4096 ∧ (0 ≤ Sf.lowI (colL k m has cc) → 0 ≤ P) := by
        refine ⟨_, rfl, ?_⟩
        rcases hb1 with ⟨g1, g2⟩ | g1
        · by_cases g3 : Sf.lowI (colL k m has cc) < 0
          · have : Sf.lowI (colL k m has cc) = -1 := by omega
            rw [this]; omega
          · have q1 := Int.mul_nonneg (show 0 ≤ Sf.lowI (colL k m has cc) by omega) (show (0 : Int) ≤ k by omega)
            have q2 := Int.mul_le_mul_of_nonneg_right (show Sf.lowI (colL k m has cc) ≤ (m : Int) by omega) (show (0 : Int) ≤ k by omega)
            have q3 : (m : Int) * (k : Int) = ((m * k : Nat) : Int) := by simp
            rw [q3, ← hkm] at q2
            omega
        · rw [g1]; omega
      rw [hP] at HS
      generalize A cc = x at *
      generalize Sf.lowI (colL k m has cc) = X at *
      generalize loI k has ((colsW k l).take j) = T at *
      obtain ⟨hP1, hP2, hP3⟩ := hP1
      have hX : X < 4097 := by
        rcases hb1 with ⟨g1, g2⟩ | g1
        · have : (m : Int) ≤ 4096 := by
            have := Nat.le_mul_of_pos_right m h3
            omega
          omega
        · omega
      have hX2 : -1 ≤ X := by omega
      clear hb1 hkm
      have hw1 : IntKind.i64.wrap P = P := by rw [IntKind.wrap_i64]; omega
      by_cases t : 0 ≤ X ∧ (T < 0 ∨ P + cc < T)
      · rw [if_pos t] at HS
        obtain ⟨t0, t1⟩ := t
        by_cases t2 : T < 0
        · clear t1
          go_wp2_with (go_at_call 176; refine H2.out.mono ?_; rintro e w2 ⟨rfl, hw⟩; obtain rfl := hw.symm; clear hw)
          go_roundw
          case rel => exact ⟨j + 1, by omega, by go_num, trivial, by rw [HS.out]⟩
          case measure => simp [intOf]; omega
        · have t3 : P + cc < T := by omega
          clear t1
          go_wp2_with (go_at_call 176; refine H2.out.mono ?_; rintro e w2 ⟨rfl, hw⟩; obtain rfl := hw.symm; clear hw)
          go_roundw
          case rel => exact ⟨j + 1, by omega, by go_num, trivial, by rw [HS.out]⟩
          case measure => simp [intOf]; omega
      · rw [if_neg t] at HS
        by_cases t0 : 0 ≤ X
        · have t2 : ¬ T < 0 := fun h => t ⟨t0, .inl h⟩
          have t3 : ¬ P + cc < T := fun h => t ⟨t0, .inr h⟩
          clear t
          go_wp2_with (go_at_call 176; refine H2.out.mono ?_; rintro e w2 ⟨rfl, hw⟩; obtain rfl := hw.symm; clear hw)
          go_roundw
          case rel => exact ⟨j + 1, by omega, by go_num, trivial, by rw [HS.out]⟩
          case measure => simp [intOf]; omega
        · clear t
          go_wp2_with (go_at_call 176; refine H2.out.mono ?_; rintro e w2 ⟨rfl, hw⟩; obtain rfl := hw.symm; clear hw)
          go_roundw
          case rel => exact ⟨j + 1, by omega, by go_num, trivial, by rw [HS.out]⟩
          case measure => simp [intOf]; omega
    · obtain rfl : j = (colsW k l).length := by omega
      rw [List.take_length]
      go_wp2
      go_ret
      exact ⟨by simp, HF.out⟩
/-- The numbers lie in no block of Z. -/
def Off (Z : Nat → Prop) (ad : Option Addr) (l : List Int) : Prop := ∀ b off, ad = some ⟨b, off, none⟩ → 0 < l.length → ¬ Z b
set_option maxRecDepth 20000 in
theorem c_take (cap : Nat) (h : Cm w a Z k has) (hl : NumsAt w ad l) (_ho : Off Z ad l) (hm : l.length ≤ maxLen) : Calls Tryz.prog 148 #[.pointer (some ⟨a, 0, none⟩), .slice ad l.length cap] w fun e w' => e = .returned (.tuple #[.int .i64 (takV k has l), .int .i64 (takE k has l)]) ∧ Cm w' a Z k (takS k has l) ∧ Fr Z w w' := by
  have H1 := hid (c_lowest cap h hl hm)
  have HH := hid h
  have HKP := hid fun (w1 : World) (f : Fr (fun _ => False) w w1) => h.kept f
  clear hl hm
  by_cases hp : takP k has l < has.length
  · have e0 : loI k has l = (takP k has l : Int) := if_pos hp
    have e1 : takV k has l = (takP k has l : Int) := if_pos hp
    have e2 : takE k has l = 0 := if_pos hp
    have e3 : takS k has l = has.set (takP k has l) true := rfl
    have hfree : has.getD (takP k has l) true = false := by
      have hx : meant k has l (takP k has l) = true := by
        rcases low_cases (meant k has l) has.length with ⟨_, h2, _⟩ | ⟨h2, _⟩
        · exact h2
        · unfold takP at hp; omega
      unfold meant at hx
      simpa using (Bool.and_eq_true_iff.1 hx).1
    rw [e0] at H1
    rw [e1, e2, e3]
    clear e0 e1 e2 e3
    generalize takP k has l = q at *
    obtain ⟨g, c, m, A, B, h1, h2, h3, h4, h5, h6, h7⟩ := h
    have HJ := hid h1
    have H2 := hid fun (w1 : World) (f : Fr (fun _ => False) w w1) => c_find (HKP.out w1 f) (HJ.out.kept f) q hp h3 h4 h5
    have hc := Nat.mod_lt q h3
    have H3 := hid fun (w1 : World) (f : Fr (fun _ => False) w w1) => Sf.s_takeAt ((HJ.out.kept f).sh (q % k) hc) ((q / k : Nat) : Int)
    have e1 : Sf.taE (colL k m has (q % k)) ((q / k : Nat) : Int) = 0 := by
      rw [Sf.taE_zero]
      exact ⟨col_hasN h3 h2 hp, by rw [col_isT h3 h2 hp]; exact hfree⟩
    have e2 : Sf.taS (colL k m has (q % k)) ((q / k : Nat) : Int) = (colL k m has (q % k)).set (q / k) true := by
      unfold Sf.taS
      rw [col_hasN h3 h2 hp, if_pos rfl, Int.toNat_natCast]
    have HP := hid fun (w1 w' : World) (f : Fr (fun _ => False) w w1) => (HJ.out.kept f).page (Z := Z) (w' := w') h2 h3 h4 h5 h6 (fun x hx => by have := h7 x hx; have := f.size; omega) hp true
    rw [e1, e2] at H3
    generalize (colL k m has (q % k)).set (q / k) true = l' at *
    generalize A (q % k) = x at *
    generalize q / k = y at *
    have hq : q ≤ 4096 := by omega
    clear h1 h6 h7 hp hc h2 h3 h4 h5 e1 e2 HH HKP HJ hfree
    go_enter Tryz.func148, Tryz.ntmps148
    go_wp2_with fail
    refine H1.out.mono ?_
    rintro e w1 ⟨rfl, f1⟩
    have HF := hid f1
    clear f1 H1
    go_wp2_with fail
    refine (H2.out w1 HF.out).mono ?_
    rintro e w2 ⟨rfl, n2, rfl⟩
    have HF2 := hid (HF.out.drewN n2)
    clear HF
    go_wp2_with fail
    refine (H3.out _ HF2.out).mono ?_
    rintro e w3 ⟨rfl, hs3, f3⟩
    have HR := hid (HP.out _ w3 HF2.out hs3 f3)
    clear hs3 f3
    go_wp2
    go_ret2
    exact ⟨by simp, HR.out.1, Fr.trans (HF2.out.mono fun _ _ e => e.elim) HR.out.2⟩
  · have e0 : loI k has l = -1 := if_neg hp
    have e1 : takV k has l = 0 := if_neg hp
    have e2 : takE k has l = 13 := if_neg hp
    have e3 : takS k has l = has := List.set_eq_of_length_le (by omega)
    rw [e0] at H1
    rw [e1, e2, e3]
    clear e0 e1 e2 e3 h
    go_enter Tryz.func148, Tryz.ntmps148
    go_wp2_with fail
    refine H1.out.mono ?_
    rintro e w1 ⟨rfl, f1⟩
    have HF := hid f1
    clear f1 H1
    go_wp2
    go_ret2
    exact ⟨by simp, HKP.out _ HF.out, HF.out.mono fun _ _ e => e.elim⟩
end
end Go.Proofs.YtioplfbkfokkfaaGreatDoor.Cq

namespace Go.Proofs.YtioplfbkfokkfaaGreatDoor.Cq
open Go.RowKit

/-- What is so when one more shelf is behind a map's shelves, but the map's own slice is still as it was. -/
def Grown (w w2 : World) (base am : Nat) (v : Value) (m j : Nat) (A B : Nat → Nat) (col : Nat → List Bool) (sa sb : Nat) (c : List Bool) (g cap : Nat) : Prop :=
  w2.cell? ⟨am, 1, none⟩ = some v ∧ w2.frozen? ⟨am, 1, none⟩ = false ∧ Cj (w2.setCell ⟨am, 1, none⟩ (.slice (some ⟨g, 0, none⟩) (j + 1) cap)) base am (.slice (some ⟨g, 0, none⟩) (j + 1) cap) m (j + 1) (upd A j sa) (upd B j sb) (upd col j c) ∧ Fr (fun x => x = am ∨ v.ownBlock = some x) w (w2.setCell ⟨am, 1, none⟩ (.slice (some ⟨g, 0, none⟩) (j + 1) cap)) ∧ Fr (fun x => v.ownBlock = some x) w w2
section
variable {w : World} {o : Oper} {a : Act} {Q : Exit → Act → World → Prop} {base am m j : Nat} {v : Value} {A B : Nat → Nat} {col : Nat → List Bool} {sa sb : Nat} {c : List Bool}
theorem wp_ptr {K : Act → World → Prop} (s x : Operand)
    (ho : o.op = .call { callee := .builtin .append, args := #[s, x], argTypes := #[106, 106] })
    (hj : Cj w base am v m j A B col) (hsh : Sf.Sh w sa sb c) (hn : ∀ x, Blk am v j A B x → x ≠ sa ∧ x ≠ sb) (hl : base ≤ sa ∧ base ≤ sb) (hjl : j < 1000) (hs : a.eval s = v) (hx : a.eval x = .slice (some ⟨w.heap.size, 0, none⟩) 1 1)
    (h : ∀ g cap w2, Grown w w2 base am v m j A B col sa sb c g cap → K (a.put o.dst (.slice (some ⟨g, 0, none⟩) (j + 1) cap)) w2) : o.wp Tryz.prog a (w.alloc (.cells #[.pointer (some ⟨sa, 0, none⟩)] 109)) K Q := by
  obtain ⟨i0, hi, hz0, hz1, hz2⟩ := ptr_info
  have hb : base ≤ w.heap.size := by have := hj.lo.1; have := hj.lta; omega
  obtain ⟨g, cap, w2, hr, h2, h3, h4⟩ := run_append_sep (P := Tryz.prog) (w.alloc (.cells #[.pointer (some ⟨sa, 0, none⟩)] 109)) base 106 o.type 109 i0 (.pointer none) 1 8 Tryz.underlying106 hi hz0 hz1 hz2 rfl (by decide) v j (ptrs j A) (hj.row.alloc _) ⟨w.heap.size, 0, none⟩ 1 1 (by decide) [.pointer (some ⟨sa, 0, none⟩)] rfl (fun q u hu => by
      match q, hu with
      | 0, hu => simp at hu; subst hu; simp [Addr.add]) (fun u hu => by simp at hu; subst hu; rfl) (by unfold maxLen; omega) (by omega) (by simp; omega)
  obtain ⟨k1, k2⟩ := hj.grow hsh hn hl h3 h2 h4
  have f2 : Fr (fun x => v.ownBlock = some x) w w2 := ((Fr.refl _ w).alloc _).grown h3 fun x e => .inl e
  have hst := (f2.block am hj.lta hj.na).trans hj.st
  unfold Oper.wp execOp
  simp only [ho, resolve, invoke, builtin, Sem.run_bind, Sem.run_pure, Result.andThen_ok, List.map_toArray, List.map_cons, List.map_nil, hs, hx, hr]
  exact h g cap w2 ⟨by simp [World.cell?, hst], by simp [World.frozen?, hst], k1, k2, f2⟩
theorem wpList_ptr {ops : Array Oper} {rest : List Oper} (hgd : o.guard = none) (s x : Operand)
    (ho : o.op = .call { callee := .builtin .append, args := #[s, x], argTypes := #[106, 106] })
    (hj : Cj w base am v m j A B col) (hsh : Sf.Sh w sa sb c) (hn : ∀ x, Blk am v j A B x → x ≠ sa ∧ x ≠ sb) (hl : base ≤ sa ∧ base ≤ sb) (hjl : j < 1000) (hs : a.eval s = v) (hx : a.eval x = .slice (some ⟨w.heap.size, 0, none⟩) 1 1)
    (h : ∀ g cap w2, Grown w w2 base am v m j A B col sa sb c g cap → wpList Tryz.prog ops Q rest (a.put o.dst (.slice (some ⟨g, 0, none⟩) (j + 1) cap)) w2) : wpList Tryz.prog ops Q (o :: rest) a (w.alloc (.cells #[.pointer (some ⟨sa, 0, none⟩)] 109)) :=
  wpList_plain hgd fun _ hK => wp_ptr s x ho hj hsh hn hl hjl hs hx fun g cap w2 h2 => hK _ _ (h g cap w2 h2)
end
end Go.Proofs.YtioplfbkfokkfaaGreatDoor.Cq

namespace Go.Proofs.YtioplfbkfokkfaaGreatDoor.Cq
open Go.RowKit

/-- A map that has no shelf yet. -/
theorem Cj.none {w w1 : World} (f : Fr (fun _ => False) w w1) (g : Sf.Tab w) (m : Nat) (A B : Nat → Nat) (col : Nat → List Bool) : Cj (w1.alloc (.cells #[.int .i64 (m : Int), .slice none 0 0] 108)) w.heap.size w1.heap.size (.slice none 0 0) m 0 A B col :=
  ⟨heap_alloc_new _ _, World.ownsRow_nil _ _ _ _, fun i hi => by omega, fun i hi => by omega, by simp [Value.ownBlock], ⟨f.size, fun i hi => by omega⟩, g.pos, g.carry (f.alloc _) id⟩
set_option maxRecDepth 20000 in
set_option maxHeartbeats 1000000 in
theorem c_new {n k : Nat} (h : Cfg n k) (w : World) (g : Gr w) : Calls Tryz.prog 23 #[.agg #[.int .i64 (n : Int), .int .i64 (k : Int)]] w fun e w' => ∃ a Z, e = .returned (.tuple #[.pointer (some ⟨a, 0, none⟩), .int .i64 0]) ∧ (∀ i, Z i → w.heap.size ≤ i) ∧ Cm w' a Z k (List.replicate n false) ∧ Fr (fun _ => False) w w' := by
  have H1 := hid fun w => c_check n k w
  rw [if_pos h] at H1
  unfold Cfg at h
  obtain ⟨m, hm⟩ : ∃ m : Nat, n = m * k := ⟨n / k, (Nat.div_mul_cancel (Nat.dvd_of_mod_eq_zero (by omega))).symm⟩
  have hk0 : 0 < k := by omega
  have hmk : n / k = m := by rw [hm]; exact Nat.mul_div_cancel _ hk0
  have hml : m ≤ 4096 := by have := Nat.le_mul_of_pos_right m hk0; omega
  have hdiv : Int.tdiv (n : Int) (k : Int) = (m : Int) := by rw [Int.tdiv_eq_ediv_of_nonneg (by omega), ← hmk]; simp
  have hz : ((k : Int) == 0) = false := by simp; omega
  have hw0 : IntKind.i64.wrap (m : Int) = (m : Int) := by rw [IntKind.wrap_i64]; omega
  have HM := hid hm
  have hk2 : k ≤ 32 := by omega
  have HN : Hid (n ≤ 4096) := by show _ ≤ _; omega
  have HG := hid g
  have HA := hid (Cf.new w n k)
  have c0 := HA.out.c0
  have c1 := HA.out.c1
  clear h hm hmk g
  go_enter Tryz.func23, Tryz.ntmps23
  go_wp2_with fail
  refine (H1.out _).mono ?_
  rintro e w1 ⟨rfl, f1⟩
  have HF := hid (((Fr.refl (fun _ => False) w).alloc _).trans f1)
  have A1 := HA.out.kept f1
  clear f1 c0 c1 H1
  have c0 := A1.c0
  have c1 := A1.c1
  have c2 := (A1.alloc (.cells #[.int .i64 (m : Int), .slice none 0 0] 108)).c1
  clear A1 HA
  go_wp2
  clear hdiv hz hw0 c0 c1 c2
  have HJ := hid (Cj.none HF.out HG.out m (fun _ => 0) (fun _ => 0) (fun _ => List.replicate m false))
  have HW : Hid (Fr (fun x => w.heap.size ≤ x) w (w1.alloc (.cells #[.int .i64 (m : Int), .slice none 0 0] 108))) := (HF.out.mono fun _ _ e => e.elim).alloc _
  generalize w1.heap.size = a at *
  go_loopw [6, 7, 22] (fun _ _ i wr => ∃ (j : Nat) (v : Value) (A B : Nat → Nat) (col : Nat → List Bool), j ≤ k ∧ i = .int .i64 j ∧ Cj wr w.heap.size a v m j A B col ∧ (∀ q, q < j → col q = List.replicate m false) ∧ Fr (fun x => w.heap.size ≤ x) w wr) (fun _ _ i _ => k - (intOf i).toNat)
  case atStart => exact ⟨0, _, _, _, _, by omega, rfl, HJ.out, fun q hq => by omega, HW.out⟩
  case round =>
    obtain ⟨j, v, A, B, col, hj, rfl, hjj, hcol, hf⟩ := hrel
    have HJ2 := hid hjj
    have HC := hid hcol
    have HF2 := hid hf
    clear hjj hcol hf HJ HW HF
    by_cases hlt : j < k
    · have c0 := HJ2.out.c0
      have HN2 := hid fun wr (t : Sf.Tab wr) => Sf.new_ok m wr (by omega) t.pos
      go_wp2_with fail
      refine (HN2.out _ HJ2.out.tab).mono ?_
      rintro e w2 ⟨rfl, hs2, f2⟩
      have hsz := HF2.out.size
      have hsz2 := f2.size
      have HK := hid (HJ2.out.kept f2)
      have HS := hid hs2
      have HF3 := hid (HF2.out.trans (f2.mono fun _ _ e => e.elim))
      have HNW : Hid (∀ x, Blk a v j A B x → x ≠ wr.heap.size + 1 ∧ x ≠ wr.heap.size) := fun x hx => by
        have := (HJ2.out.low hx).2
        exact ⟨by omega, by omega⟩
      clear hs2 f2 c0
      have c1 := HK.out.c1
      go_wp2_with (at_builtin; refine wpList_ptr rfl (.tmp 39) (.tmp 41) rfl HK.out HS.out HNW.out ⟨by omega, by omega⟩ (by omega) rfl rfl ?_; intro g3 cap3 w3 hgr; have c13 := hgr.1; have f13 := hgr.2.1; have HR := hid hgr.2.2; clear hgr)
      go_roundw
      case rel => exact ⟨j + 1, _, _, _, _, by omega, by go_num, HR.out.1, fun q hq => by
        by_cases e : q = j
        · subst e; exact upd_same _ _ _
        · rw [upd_low _ _ (by omega)]; exact HC.out q (by omega), Fr.trans' HF3.out HR.out.2.1 (fun x _ e => by
          rcases e with rfl | e
          · exact HK.out.lo.1
          · exact (HK.out.row.lt x e).1)⟩
      case measure => simp [intOf]; omega
    · obtain rfl : j = k := by omega
      obtain ⟨g, cap, rfl⟩ : ∃ g cap, v = .slice (some ⟨g, 0, none⟩) j cap := by
        rcases HJ2.out.row.2 with ⟨h0, h2⟩ | ⟨g, cap, _, h2, _⟩
        · omega
        · exact ⟨g, cap, h2⟩
      have HM2 := hid (Cm.made (has := List.replicate n false) HJ2.out (fun i hi => by rw [HC.out i hi, HM.out, colL_rep j m i hi]) (by simpa using HM.out) hk0 hk2 (by simpa using HN.out))
      go_wp2
      go_ret2
      obtain ⟨Z, hZ, hM⟩ := HM2.out
      exact ⟨a, Z, by simp, hZ, hM, HF2.out.new⟩
end Go.Proofs.YtioplfbkfokkfaaGreatDoor.Cq
