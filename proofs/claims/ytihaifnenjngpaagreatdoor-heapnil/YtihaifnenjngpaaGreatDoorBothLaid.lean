/-
  Calls of heaps as they come in; the laws' own 'long'.
  Numbers that came in, laid anew: append([]int{}, l...).
  The document's heap in memory, as far as all laws but the first ask for it: where it lies.
  A heap that is none has no blocks: the walk of the law HeapNil.
  From the row's condition, what both tables (class.units, math/bits) read as when the call begins, to what the walks ask of them.
-/
import Derived.Test.YtihaifnenjngpaaGreatDoorHpAwake
import Derived.LoopTactic
import Derived.Test.YtihaifnenjngpaaGreatDoorHpTopD
import Derived.Test.YtihaifnenjngpaaGreatDoorCqCols
import Derived.Test.YtihaifnenjngpaaGreatDoorClCalls
import Derived.Test.YtihaifnenjngpaaGreatDoorSfNew
import Derived.ProofKit
import Derived.OpenShut
import Derived.LaidMore
import Derived.Stop.Joined
import Derived.Lib.LaidTab
namespace Go.Proofs.YtihaifnenjngpaaGreatDoor
open Go.RowKit
open An

/-- A call: its kind, its number, of which heap, a window. -/
structure O17 where
  kd : Int
  n : Int
  two : Bool
  ad : Option Addr
  cap : Nat
  W : List Int
/-- Calls that lie where a slice says. -/
def OpsH (w : World) (ad : Option Addr) (l : List O17) : Prop := ∀ i (h : i < l.length), ∃ b off, ad = some ⟨b, off, none⟩ ∧ b < w.heap.size ∧ w.cell? ⟨b, off + i * 4, none⟩ = some (.int .i64 l[i].kd) ∧ w.cell? ⟨b, off + i * 4 + 1, none⟩ = some (.int .i64 l[i].n) ∧ w.cell? ⟨b, off + i * 4 + 2, none⟩ = some (.bool l[i].two) ∧ w.cell? ⟨b, off + i * 4 + 3, none⟩ = some (.slice l[i].ad l[i].W.length l[i].cap) ∧ I64 l[i].kd ∧ I64 l[i].n ∧ NumsAt w l[i].ad l[i].W ∧ l[i].W.length ≤ 17592186044416
theorem OpsH.fr {w w' : World} {ad : Option Addr} {l : List O17} (h : OpsH w ad l) (hf : Fr (fun _ => False) w w') : OpsH w' ad l := fun i hi => by
  obtain ⟨b, off, h1, h2, h3, h4, h5, h6, h7, h8, h9, h10⟩ := h i hi
  exact ⟨b, off, h1, by have := hf.size; omega, (World.cell?_of_block (hf.block b h2 (fun h => h))).trans h3, (World.cell?_of_block (hf.block b h2 (fun h => h))).trans h4, (World.cell?_of_block (hf.block b h2 (fun h => h))).trans h5, (World.cell?_of_block (hf.block b h2 (fun h => h))).trans h6, h7, h8, h9.fr hf, h10⟩
/-- Pages and colours, and two windows. -/
structure C17 where
  P : Int
  K : Int
  adA : Option Addr
  cA : Nat
  A : List Int
  adB : Option Addr
  cB : Nat
  B : List Int
def C17.val (c : C17) : Value := .agg #[.int .i64 c.P, .int .i64 c.K, .slice c.adA c.A.length c.cA, .slice c.adB c.B.length c.cB]
/-- It lies right. -/
structure CfgH (w : World) (c : C17) : Prop where
  p : I64 c.P
  k : I64 c.K
  a : NumsAt w c.adA c.A
  b : NumsAt w c.adB c.B
  la : c.A.length ≤ 17592186044416
  lb : c.B.length ≤ 17592186044416
theorem CfgH.fr {w w' : World} {c : C17} (h : CfgH w c) (f : Fr (fun _ => False) w w') : CfgH w' c := ⟨h.p, h.k, h.a.fr f, h.b.fr f, h.la, h.lb⟩
/-- What isn't long. -/
structure Short17 (c : C17) (l : List O17) : Prop where
  win : l ≠ [] → c.A.length + c.B.length ≤ 1500
  len : l.length ≤ 250
  ops : ∀ i (hi : i < l.length), l[i].W.length ≤ 1500
  P : c.P ≤ 512
/-- What 'long' answers. -/
def LongR (c : C17) (l : List O17) (e : Ending) : Prop := ∃ b : Bool, e = .returned (.bool b) ∧ (b = false → Short17 c l)
set_option maxRecDepth 20000 in
set_option maxHeartbeats 2000000 in
theorem long_any {w : World} {ad : Option Addr} {cap : Nat} {l : List O17} {c : C17} (h : OpsH w ad l) (hc : CfgH w c) (hmax : l.length ≤ maxLen) : Calls Tryz.prog 10 #[c.val, .slice ad l.length cap] w fun e w' => LongR c l e ∧ Fr (fun _ => False) w w' := by
  have HO := hid h
  have la := hc.la
  have lb := hc.lb
  obtain ⟨p1, p2⟩ := hc.p
  clear h hc
  unfold maxLen at hmax
  unfold C17.val
  obtain ⟨P, K, adA, cA, A, adB, cB, B⟩ := c
  simp only at la lb p1 p2 ⊢
  have HL : Hid ((l ≠ [] → A.length + B.length ≤ 1500) → (∀ i (hi : i < l.length), l[i].W.length ≤ 1500) → l.length ≤ 250 → P ≤ 512 → Short17 ⟨P, K, adA, cA, A, adB, cB, B⟩ l) := fun a b c d => ⟨a, c, b, d⟩
  generalize A.length = nA at *
  generalize B.length = nB at *
  have r0 : IntKind.i64.wrap ((nA : Int) + nB) = ((nA + nB : Nat) : Int) := by rw [IntKind.wrap_i64]; omega
  go_enter Tryz.func10, Tryz.ntmps10
  have HB : Hid (∀ wr, Fr (fun _ => False) (w.alloc (.cells #[.int .i64 P, .int .i64 K, .slice adA nA cA, .slice adB nB cB] 26)) wr → wr.cell? ⟨w.heap.size, 0, none⟩ = some (.int .i64 P)) := fun wr f => by
    rw [World.cell?_of_block (f.block w.heap.size (by simp) id)]
    unfold World.cell?
    rw [heap_alloc_new]
    rfl
  have HF0 : Hid (Fr (fun _ => False) (w.alloc (.cells #[.int .i64 P, .int .i64 K, .slice adA nA cA, .slice adB nB cB] 26)) (w.alloc (.cells #[.int .i64 P, .int .i64 K, .slice adA nA cA, .slice adB nB cB] 26))) := Fr.refl _ _
  have HW : Hid (∀ wr, Fr (fun _ => False) (w.alloc (.cells #[.int .i64 P, .int .i64 K, .slice adA nA cA, .slice adB nB cB] 26)) wr → Fr (fun _ => False) w wr) := fun wr f => Fr.trans ((Fr.refl _ _).alloc _) f
  go_wp2
  generalize w.alloc (.cells #[.int .i64 P, .int .i64 K, .slice adA nA cA, .slice adB nB cB] 26) = w0 at *
  go_loopw [5, 17] (fun n i wr => ∃ (j N : Nat), j ≤ l.length ∧ i = .int .i64 j ∧ n = .int .i64 N ∧ N ≤ 35184372088832 + 1500 * j ∧ Hid (nA + nB ≤ N ∧ (0 < j → N ≤ 1500) ∧ ∀ k (hk : k < l.length), k < j → l[k].W.length ≤ 1500) ∧ Hid (Fr (fun _ => False) w0 wr)) (fun _ i _ => l.length - (intOf i).toNat)
  case atStart => exact ⟨0, nA + nB, by omega, rfl, by simp, by omega, ⟨by omega, fun e => by omega, fun k _ hk => by omega⟩, HF0⟩
  case round =>
    obtain ⟨j, N, hj, rfl, rfl, hN, HK, HF⟩ := hrel
    have hc0 := HB.out _ HF.out
    by_cases hlt : j < l.length
    · obtain ⟨bb, off, rfl, hbb, hc1, hc2, hc3, hc4, _, _, _, hwl⟩ := HO.out.fr (HW.out _ HF.out) j hlt
      have HJ : Hid (l[j].W.length = l[j].W.length) := rfl
      generalize hk : l[j] = o at hc1 hc2 hc3 hc4 hwl
      obtain ⟨kd, n, two, oad, ocap, oW⟩ := o
      simp only at hc1 hc2 hc3 hc4 hwl
      have HS : Hid (l[j].W.length = oW.length) := by show _ = _; rw [hk]
      have HF2 := hid (HF.out.alloc (.cells #[.int .i64 kd, .int .i64 n, .bool two, .slice oad oW.length ocap] 34))
      clear hk HJ HF hc0
      generalize oW.length = m at *
      have hN2 : N ≤ 35184372088832 + 1500 ∨ True := .inr trivial
      by_cases hbig : 1500 < N
      · have hj0 : j = 0 := by
          by_cases e : j = 0
          · exact e
          · have := HK.out.2.1 (by omega); omega
        subst hj0
        have r1 : IntKind.i64.wrap (2 + (m : Int)) = 2 + m := by rw [IntKind.wrap_i64]; omega
        have r2 : IntKind.i64.wrap ((N : Int) + (2 + m)) = N + (2 + m) := by rw [IntKind.wrap_i64]; omega
        have hb : (1500 : Int) < N + (2 + m) := by omega
        clear HK HO HB hN hN2
        simp only [Nat.zero_mul, Nat.add_zero] at hc1 hc2 hc3 hc4
        go_wp2
        go_ret
        exact ⟨⟨true, by simp, fun e => by cases e⟩, HW.out _ HF2.out⟩
      · have r1 : IntKind.i64.wrap (2 + (m : Int)) = 2 + m := by rw [IntKind.wrap_i64]; omega
        have r2 : IntKind.i64.wrap ((N : Int) + (2 + m)) = N + (2 + m) := by rw [IntKind.wrap_i64]; omega
        by_cases hb : (1500 : Int) < N + (2 + m)
        · clear HK HO HB hN hN2
          go_wp2
          go_ret
          exact ⟨⟨true, by simp, fun e => by cases e⟩, HW.out _ HF2.out⟩
        · have hb2 : (N : Int) + (2 + m) ≤ 1500 := by omega
          clear HO HB hN2
          go_wp2
          go_roundw
          case rel =>
            refine ⟨j + 1, N + (2 + m), by omega, by go_num, by go_num, by omega, ⟨by have := HK.out.1; omega, fun _ => by omega, fun k hk hkj => ?_⟩, HF2⟩
            by_cases e : k = j
            · subst e
              have := HS.out
              omega
            · exact HK.out.2.2 k hk (by omega)
          case measure => simp [intOf]; omega
    · obtain rfl : l.length = j := by omega
      by_cases h1 : (250 : Int) < l.length
      · go_wp2
        go_ret
        exact ⟨⟨true, by simp, fun e => by cases e⟩, HW.out _ HF.out⟩
      · have h2 : (l.length : Int) ≤ 250 := by omega
        by_cases h3 : (512 : Int) < P
        · go_wp2
          go_ret
          exact ⟨⟨true, by simp, fun e => by cases e⟩, HW.out _ HF.out⟩
        · have h4 : P ≤ 512 := by omega
          go_wp2
          go_ret
          refine ⟨⟨false, by simp, fun _ => HL.out (fun e => ?_) (fun i hi => HK.out.2.2 i hi hi) (by omega) h4⟩, HW.out _ HF.out⟩
          have h5 : 0 < l.length := List.length_pos_iff.2 e
          have := HK.out.2.1 h5
          have := HK.out.1
          omega
end Go.Proofs.YtihaifnenjngpaaGreatDoor

namespace Go.Proofs.YtihaifnenjngpaaGreatDoor
open Go.RowKit
open An

theorem app_none {P : Program} {w : World} (t ty e : TypeId) (i : TypeInfo) (ht : P.underlying t = some (.slice e)) (hi : P.info? e = some i) (a : Addr) (ad : Option Addr) (c : Nat) :
    (Builtin.append_ #[t, t] ty #[.slice (some a) 0 0, .slice ad 0 c]).run P w = .ok (.slice (some a) 0 0) w := by
  cases ad <;> simp [Builtin.append_, run_underlying ht, sizeOf, typeInfo, hi, Builtin.lenOf, Builtin.firstCells, loadCells, loadCellsFrom, storeCells]
/-- What is laid anew. -/
theorem run_dup {w : World} {ad : Option Addr} {l : List Int} (ty : TypeId) (c : Nat) (hl : NumsAt w ad l) (hn : l.length ≤ 17592186044416) : ∃ ad' cap' w', (Builtin.append_ #[24, 24] ty #[.slice (some ⟨w.heap.size, 0, none⟩) 0 0, .slice ad l.length c]).run Tryz.prog (w.alloc (.cells #[] 3)) = .ok (.slice ad' l.length cap') w' ∧ NumsAt w' ad' l ∧ Fr (fun _ => False) w w' ∧ ∀ b off, ad' = some ⟨b, off, none⟩ → w.heap.size ≤ b := by
  obtain ⟨i0, hi, hz0, hz1, hz2⟩ := info_parts Tryz.infoInt
  have f0 : Fr (fun _ => False) w (w.alloc (.cells #[] 3)) := (Fr.refl _ _).alloc _
  cases hL : l with
  | nil =>
    refine ⟨_, _, _, app_none _ _ _ i0 Tryz.underlying24 hi _ ad c, nums_none _ _, f0, fun b off e => ?_⟩
    simp only [Option.some.injEq, Addr.mk.injEq] at e
    omega
  | cons x r =>
    rw [← hL]
    have h0 : 0 < l.length := by rw [hL]; simp
    obtain ⟨B, off, rfl, hB, _⟩ := hl 0 h0
    have hl' := hl.fr f0
    obtain ⟨g, cap, w', hr, h2, h3, h4⟩ := run_append_sep (P := Tryz.prog) (w.alloc (.cells #[] 3)) w.heap.size 24 ty 3 i0 (.int .i64 0) 1 8 Tryz.underlying24 hi hz0 hz1 hz2 rfl (by decide) (.slice (some ⟨w.heap.size, 0, none⟩) 0 0) 0 [] ⟨by simp, .inr ⟨w.heap.size, 0, #[], rfl, Nat.le_refl _, heap_alloc_new w _, Nat.le_refl _, by unfold maxLen; omega, by simp, by simp⟩⟩ ⟨B, off, none⟩ l.length c h0 (ic l) (by rw [ic_length]; simp) (fun j u hj => by
        have hj2 : j < l.length := by have := (List.getElem?_eq_some_iff.1 hj).1; simpa [ic] using this
        obtain ⟨b, off', h1, h2, h3⟩ := hl' j hj2
        cases h1
        rw [add_plain, h3, ← hj]
        simp [ic, hj2]) (ic_one l) (by unfold maxLen; omega) (by omega) (by simp)
    rw [Nat.zero_add] at hr h2
    rw [List.nil_append] at h2
    refine ⟨_, _, w', hr, nums_row h2, ?_, fun b off e => ?_⟩
    · refine Fr.new (Fr.grown (S := fun i => w.heap.size ≤ i) ((Fr.refl _ _).alloc _) h3 fun k e => .inl ?_)
      simp only [Value.ownBlock, Option.some.injEq] at e
      omega
    · simp only [Option.some.injEq, Addr.mk.injEq] at e
      have := (h2.lt g rfl).1
      omega
end Go.Proofs.YtihaifnenjngpaaGreatDoor

namespace Go.Proofs.YtihaifnenjngpaaGreatDoor
open Go.RowKit
open An

/-- The document's map of pages, as a thing. -/
def Mt (y k : Nat) (has : List Bool) (w : World) (Z : Nat → Prop) : Prop := ∃ t, Cq.Rf w y t k has ∧ Z y ∧ Z t ∧ ∀ i, Z i → i < w.heap.size
theorem Mt.good (y k : Nat) (has : List Bool) : Good (Mt y k has) :=
  ⟨fun ⟨t, h1, h2, h3, h4⟩ f hs => ⟨t, h1.carry f (hs _ h2) (hs _ h3), h2, h3, fun i hi => Nat.lt_of_lt_of_le (h4 i hi) f.size⟩, fun ⟨t, h1, h2, h3, _⟩ k1 k2 => ⟨t, h1, k1 _ h2, k1 _ h3, k2⟩⟩
/-- The document's heap. -/
def Rh (r _x _y _k : Nat) (_H : Hp) (w : World) (Z : Nat → Prop) : Prop := Z r ∧ ∀ i, Z i → i < w.heap.size
theorem Rh.good (r x y k : Nat) (H : Hp) : Good (Rh r x y k H) := ⟨fun h f _ => ⟨h.1, fun i hi => Nat.lt_of_lt_of_le (h.2 i hi) f.size⟩, fun h k1 k2 => ⟨k1 _ h.1, k2⟩⟩
def Ad (x y k : Nat) (M : Ms) : World → (Nat → Prop) → Prop := Both (Am 68 x M.bs M.ss) (Mt y k M.has)
theorem Ad.good (x y k : Nat) (M : Ms) : Good (Ad x y k M) := Both.good (Am.good _ _ _ _) (Mt.good _ _ _)
section
variable {w : World} {x y r k : Nat} {U : Nat → Prop} {M : Ms} {H : Hp} {W : List Int} {ad : Option Addr} {cap : Nat}
set_option maxRecDepth 20000 in
theorem rh_new (hn : NumsAt w ad W) (hW : W.length ≤ 17592186044416) (x y k : Nat) : Calls Tryz.prog 49 #[.pointer (some ⟨x, 0, none⟩), .pointer (some ⟨y, 0, none⟩), .slice ad W.length cap] w fun e w' => ∃ r Z, e = .returned (.pointer (some ⟨r, 0, none⟩)) ∧ Rh r x y k ⟨W, [], [], fun _ => []⟩ w' Z ∧ Fr (fun _ => False) w w' ∧ ∀ i, Z i → w.heap.size ≤ i ∧ i < w'.heap.size := by
  obtain ⟨ad', cap', w1, hru, _, hfr, _⟩ := run_dup 24 cap hn hW
  have HF := hid hfr
  clear hn hW hfr
  generalize W.length = wl at *
  go_enter Tryz.func49, Tryz.ntmps49
  go_wp2_with (at_builtin; refine wpList_app17 rfl (.tmp 9) (.tmp 10) 24 24 rfl rfl rfl hru ?_)
  go_wp2
  go_ret
  refine ⟨_, fun i => w.heap.size ≤ i ∧ i < _, by simp; rfl, ⟨⟨?_, ?_⟩, fun i hi => hi.2⟩, (HF.out.alloc _).alloc _, fun i hi => hi⟩
  · have := HF.out.size
    simp
    omega
  · simp
end
end Go.Proofs.YtihaifnenjngpaaGreatDoor

namespace Go.Proofs.YtihaifnenjngpaaGreatDoor
open Go.RowKit
open An

/-- An append whose run is known, behind a guard that lets it by. -/
theorem wpList_app17g {P : Program} {w w' : World} {ops : Array Oper} {rest : List Oper} {o : Oper} {a : Act} {Q : Exit → Act → World → Prop} (hw : Region.wanted o (yielded ops a.tmps) = true) (s x : Operand) (t u : TypeId) (ho : o.op = .call { callee := .builtin .append, args := #[s, x], argTypes := #[t, u] }) {y z v : Value} (hs : a.eval s = y) (hx : a.eval x = z)
    (hrun : (Builtin.append_ #[t, u] o.type #[y, z]).run P w = .ok v w') (h : wpList P ops Q rest (a.put o.dst v) w') : wpList P ops Q (o :: rest) a w := by
  refine wpList_step fun K hK => ?_
  rw [if_pos hw]
  unfold Oper.wp
  simp [execOp, ho, resolve, invoke, builtin, hs, hx, hrun, Result.andThen]
  exact hK _ _ h
set_option maxRecDepth 20000 in
set_option maxHeartbeats 4000000 in
theorem nil_walk' {w : World} (gr : G17 w) (n : Int) {ad : Option Addr} {l : List Int} (cap : Nat) (hl : NumsAt w ad l) (_hm : l.length ≤ maxLen) : Calls Tryz.prog 7 #[.int .i64 n, .slice ad l.length cap] w fun e w' => e = .returned (.bool true) ∧ Nw w w' := by
  have T0 : Hid (Nw w w) := Nw.start w
  have HA : Hid (∀ w1, Nw w w1 → Calls Tryz.prog 9 #[] w1 fun e w' => e = .returned (.bool true) ∧ Nw w w') := fun w1 h => awake_any h gr
  by_cases hl1 : (1000 : Int) < l.length
  · clear hl gr
    generalize l.length = ll at *
    go_enter Tryz.func7, Tryz.ntmps7
    go_wp2_with fail
    refine (HA.out _ T0.out).mono ?_
    rintro e w1 ⟨rfl, f⟩
    have T1 := hid f
    clear f
    go_wp2
    go_ret
    exact ⟨by simp, T1.out⟩
  have hlen : (l.length : Int) ≤ 1000 := by omega
  have HD : Hid (∀ w1, Nw w w1 → ∃ ad' cap' w', (Builtin.append_ #[24, 24] 24 #[.slice (some ⟨w1.heap.size, 0, none⟩) 0 0, .slice ad l.length cap]).run Tryz.prog (w1.alloc (.cells #[] 3)) = .ok (.slice ad' l.length cap') w' ∧ Nw w w') := fun w1 h => by
    obtain ⟨ad', cap', w', h1, _, h3, _⟩ := run_dup 24 cap (hl.fr h.fr) (by omega)
    exact ⟨ad', cap', w', h1, h.kept h3⟩
  have HDr : Hid (∀ w1, Nw w w1 → Calls Tryz.prog 40 #[.pointer none] w1 fun e w' => e = .returned (.tuple #[]) ∧ Nw w w') := fun w1 h => (y_drop_nil w1).mono fun e w' ⟨he, f⟩ => ⟨he, h.kept f⟩
  have HMa : Hid (∀ w1, Nw w w1 → Calls Tryz.prog 26 #[.pointer none, .int .i64 n] w1 fun e w' => e = .returned (.tuple #[.int .i64 0, .int .i64 11]) ∧ Nw w w') := fun w1 h => (y_malloc_nil n (gr.fr h.fr)).mono fun e w' ⟨he, f⟩ => ⟨he, h.kept f⟩
  have HUs : Hid (∀ w1, Nw w w1 → Calls Tryz.prog 27 #[.pointer none, .int .i64 n] w1 fun e w' => e = .returned (.tuple #[.int .i64 0, .int .i64 11]) ∧ Nw w w') := fun w1 h => (y_usable_nil n w1).mono fun e w' ⟨he, f⟩ => ⟨he, h.kept f⟩
  have HFr : Hid (∀ w1, Nw w w1 → Calls Tryz.prog 35 #[.pointer none, .int .i64 n] w1 fun e w' => e = .returned (.int .i64 11) ∧ Nw w w') := fun w1 h => (y_free_nil n w1).mono fun e w' ⟨he, f⟩ => ⟨he, h.kept f⟩
  have HPa : Hid (∀ w1, Nw w w1 → Calls Tryz.prog 14 #[.pointer none] w1 fun e w' => e = .returned (.int .i64 0) ∧ Nw w w') := fun w1 h => (y_pages_nil w1).mono fun e w' ⟨he, f⟩ => ⟨he, h.kept f⟩
  have HTa : Hid (∀ w1, Nw w w1 → Calls Tryz.prog 17 #[.pointer none] w1 fun e w' => e = .returned (.pointer none) ∧ Nw w w') := fun w1 h => (y_table_nil w1).mono fun e w' ⟨he, f⟩ => ⟨he, h.kept f⟩
  have HBl : Hid (∀ w1, Nw w w1 → Calls Tryz.prog 22 #[.pointer none] w1 fun e w' => ∃ ad cap, e = .returned (.slice ad 0 cap) ∧ Nw w w') := fun w1 h => (y_blocks_nil w1).mono fun e w' ⟨ad, cap, he, f⟩ => ⟨ad, cap, he, h.kept f⟩
  have HWi : Hid (∀ w1, Nw w w1 → Calls Tryz.prog 16 #[.pointer none] w1 fun e w' => ∃ ad cap, e = .returned (.slice ad 0 cap) ∧ Nw w w') := fun w1 h => (y_window_nil w1).mono fun e w' ⟨ad, cap, he, f⟩ => ⟨ad, cap, he, h.kept f⟩
  have HNe : Hid (∀ w1 y, Nw w w1 → Calls Tryz.prog 42 #[.pointer none, .pointer none, y] w1 fun e w' => e = .returned (.tuple #[.pointer none, .int .i64 11]) ∧ Nw w w') := fun w1 y h => (y_new_nil y w1).mono fun e w' ⟨he, f⟩ => ⟨he, h.kept f⟩
  have HMo : Hid (∀ w1 y, Nw w w1 → Calls Tryz.prog 34 #[.pointer none, y] w1 fun e w' => e = .returned (.int .i64 11) ∧ Nw w w') := fun w1 y h => (y_move_nil y w1).mono fun e w' ⟨he, f⟩ => ⟨he, h.kept f⟩
  clear hl gr hl1
  generalize l.length = ll at *
  go_enter Tryz.func7, Tryz.ntmps7
  go_wp2_with fail
  refine (HDr.out _ T0.out).mono ?_
  rintro e w1 ⟨rfl, f1⟩
  have T1 := hid f1
  clear f1 T0
  go_wp2_with fail
  refine (HMa.out _ T1.out).mono ?_
  rintro e w2 ⟨rfl, f2⟩
  have T2 := hid f2
  clear f2 T1
  go_wp2_with fail
  refine (HUs.out _ T2.out).mono ?_
  rintro e w3 ⟨rfl, f3⟩
  have T3 := hid f3
  clear f3 T2
  obtain ⟨ad4, cap4, w4, hr4, f4⟩ := HD.out _ T3.out
  have T4 := hid f4
  clear f4 T3
  go_wp2_with (at_builtin; refine wpList_app17 rfl (.tmp 31) (.tmp 32) 24 24 rfl rfl rfl hr4 ?_)
  clear hr4
  go_wp2_with fail
  refine (HNe.out _ _ T4.out).mono ?_
  rintro e w5 ⟨rfl, f5⟩
  have T5 := hid f5
  clear f5 T4
  go_wp2_with fail
  refine (HA.out _ T5.out).mono ?_
  rintro e w6 ⟨rfl, f6⟩
  have T6 := hid f6
  clear f6 T5
  go_wp2_with fail
  refine (HFr.out _ T6.out).mono ?_
  rintro e w7 ⟨rfl, f7⟩
  have T7 := hid f7
  clear f7 T6
  obtain ⟨ad8, cap8, w8, hr8, f8⟩ := HD.out _ T7.out
  have T8 := hid f8
  clear f8 T7
  go_wp2_with (at_builtin; refine wpList_app17g (by rfl) (.tmp 62) (.tmp 63) 24 24 rfl rfl rfl hr8 ?_)
  clear hr8
  go_wp2_with fail
  refine (HMo.out _ _ T8.out).mono ?_
  rintro e w9 ⟨rfl, f9⟩
  have T9 := hid f9
  clear f9 T8
  go_wp2_with fail
  refine (HBl.out _ T9.out).mono ?_
  rintro e w10 ⟨adb, capb, rfl, f10⟩
  have T10 := hid f10
  clear f10 T9
  go_wp2_with fail
  refine (HPa.out _ T10.out).mono ?_
  rintro e w11 ⟨rfl, f11⟩
  have T11 := hid f11
  clear f11 T10
  go_wp2_with fail
  refine (HTa.out _ T11.out).mono ?_
  rintro e w12 ⟨rfl, f12⟩
  have T12 := hid f12
  clear f12 T11
  go_wp2_with fail
  refine (HWi.out _ T12.out).mono ?_
  rintro e w13 ⟨adc, capc, rfl, f13⟩
  have T13 := hid f13
  clear f13 T12
  go_wp2
  go_ret
  exact ⟨by simp, T13.out⟩
theorem nil_walk {w : World} (gr : G17 w) (n : Int) {v : Value} (h : ∃ ad cap l, v = .slice ad (List.length l) cap ∧ NumsAt w ad l ∧ l.length ≤ maxLen) : Calls Tryz.prog 7 #[.int .i64 n, v] w fun e w' => e = .returned (.bool true) ∧ Fr (fun _ => False) w w' := by
  obtain ⟨ad, cap, l, rfl, h1, h2⟩ := h
  exact (nil_walk' gr n cap h1 h2).mono fun e w' ⟨he, f⟩ => ⟨he, f.fr⟩
end Go.Proofs.YtihaifnenjngpaaGreatDoor

namespace Go.Proofs.YtihaifnenjngpaaGreatDoor
open Go.RowKit

def laidL : List (String × DataW Unit) := [("garth/class.units", Rows.laid_garth_class_units), ("math/bits.deBruijn64tab", Rows.laid_math_bits_deBruijn64tab)]
theorem own : ownKnob Tryz.prog.godebug = none := by kernel_rfl
theorem laidOut : laidOutB Tryz.prog = true := by kernel_rfl
theorem laidMet_tail {P : Program} {W : World} {n : String} {d : DataW Unit} {r : List (String × DataW Unit)} (h : laidMet P ((n, d) :: r) W) : laidMet P r W := by
  obtain ⟨ps, ⟨g, t, cs, fuel, p, q, _, _, _, _, hr, rfl⟩, hn, hc⟩ := h
  exact ⟨q, hr, (List.nodup_append.1 hn).2.1, fun b off hm => hc b off (by simp [hm])⟩
theorem gTab : Tryz.prog.globalNamed "garth/class.units" = some 0 := by kernel_rfl
theorem tTab : (Tryz.prog.globals[0]?).map (·.type) = some 144 := by kernel_rfl
theorem cTab : Tryz.prog.cellsOf 144 = 8 := by kernel_rfl
theorem cInt : Tryz.prog.cellsOf 3 = 1 := by kernel_rfl
def tabZ : List Int := [16, 32, 48, 64, 96, 128, 192, 256]
theorem laid_is : (Rows.laid_garth_class_units : DataW Unit) = Lib.tabData .i64 tabZ := rfl
theorem gTabB : Tryz.prog.globalNamed "math/bits.deBruijn64tab" = some 1 := by kernel_rfl
theorem tTabB : (Tryz.prog.globals[1]?).map (·.type) = some 251 := by kernel_rfl
theorem cTabB : Tryz.prog.cellsOf 251 = 64 := by kernel_rfl
theorem cByteB : Tryz.prog.cellsOf 5 = 1 := by kernel_rfl
def tabB : List Int := Lib.deBruijn64tab.map fun n : Nat => (n : Int)
theorem laid_isB : (Rows.laid_math_bits_deBruijn64tab : DataW Unit) = Lib.tabData .u8 tabB := rfl
theorem tab_of {W : World} (h : laidMetH Tryz.prog laidL W) : Tab W ∧ Sf.Tab W := by
  rw [MakeChecks.laidMetH_plain _ _ _ (by kernel_rfl)] at h
  unfold laidL at h
  rw [laid_is, laid_isB] at h
  have ht := Lib.tabIs_of_head gTab tTab Tryz.underlying144 Tryz.underlying3 cInt cTab h
  have hb := Lib.tabIs_of_head gTabB tTabB Tryz.underlying251 Tryz.underlying5 cByteB cTabB (laidMet_tail h)
  refine ⟨fun j hj => ?_, fun j hj => ?_⟩
  · have := ht.cell gTab j (by simpa [tabZ] using hj)
    rw [this]
    have key : ∀ a : Fin 8, tabZ.getD a.val 0 = unitI (a.val : Int) := by decide
    rw [key ⟨j, hj⟩]
  · have := hb.cell gTabB j (by simpa [tabB, Lib.deBruijn64tab] using hj)
    rw [this]
    have hl : j < Lib.deBruijn64tab.length := by simpa [Lib.deBruijn64tab] using hj
    simp [tabB, List.getD_eq_getElem?_getD, List.getElem?_eq_getElem hl]
theorem door_met (os : Os) (args : Array Value) : laidMetH Tryz.prog laidL ((World.doorLaid Tryz.prog 14 os).forCall (fun _ _ => 0) ⟨#[], args, []⟩).memory :=
  laidMetH_of_parts3 (fuel := 8) (laidMet_of_run' 8 (by kernel_rfl) (by kernel_rfl)) (by kernel_rfl) (by kernel_rfl)
end Go.Proofs.YtihaifnenjngpaaGreatDoor
