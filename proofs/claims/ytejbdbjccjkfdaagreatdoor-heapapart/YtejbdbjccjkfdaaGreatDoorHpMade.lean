/-
  Calls of heaps as they come in; the laws' own 'long'.
  Numbers that came in, laid anew: append([]int{}, l...).
  The document's heap in memory, as far as all laws but the first ask for it: where it lies.
  The laws' own 'made': two heaps of one arena, and the document's beside them.
-/
import Derived.Test.YtejbdbjccjkfdaaGreatDoorHpAwake
import Derived.LoopTactic
import Derived.Test.YtejbdbjccjkfdaaGreatDoorHpTopC
import Derived.Test.YtejbdbjccjkfdaaGreatDoorCqApp
namespace Go.Proofs.YtejbdbjccjkfdaaGreatDoor
open Go.RowKit
open An

/-- A call: its kind, its number, of which heap, a window. -/
structure O17 where
  kd : Int
  n : Int
  two : Bool
  ad : Option Addr
  cap : Nat
  W : List Int
/-- Calls that lie where a slice says. -/
def OpsH (w : World) (ad : Option Addr) (l : List O17) : Prop := ∀ i (h : i < l.length), ∃ b off, ad = some ⟨b, off, none⟩ ∧ b < w.heap.size ∧ w.cell? ⟨b, off + i * 4, none⟩ = some (.int .i64 l[i].kd) ∧ w.cell? ⟨b, off + i * 4 + 1, none⟩ = some (.int .i64 l[i].n) ∧ w.cell? ⟨b, off + i * 4 + 2, none⟩ = some (.bool l[i].two) ∧ w.cell? ⟨b, off + i * 4 + 3, none⟩ = some (.slice l[i].ad l[i].W.length l[i].cap) ∧ I64 l[i].kd ∧ I64 l[i].n ∧ NumsAt w l[i].ad l[i].W ∧ l[i].W.length ≤ 17592186044416
theorem OpsH.fr {w w' : World} {ad : Option Addr} {l : List O17} (h : OpsH w ad l) (hf : Fr (fun _ => False) w w') : OpsH w' ad l := fun i hi => by
  obtain ⟨b, off, h1, h2, h3, h4, h5, h6, h7, h8, h9, h10⟩ := h i hi
  exact ⟨b, off, h1, by have := hf.size; omega, (World.cell?_of_block (hf.block b h2 (fun h => h))).trans h3, (World.cell?_of_block (hf.block b h2 (fun h => h))).trans h4, (World.cell?_of_block (hf.block b h2 (fun h => h))).trans h5, (World.cell?_of_block (hf.block b h2 (fun h => h))).trans h6, h7, h8, h9.fr hf, h10⟩
/-- Pages and colours, and two windows. -/
structure C17 where
  P : Int
  K : Int
  adA : Option Addr
  cA : Nat
  A : List Int
  adB : Option Addr
  cB : Nat
  B : List Int
def C17.val (c : C17) : Value := .agg #[.int .i64 c.P, .int .i64 c.K, .slice c.adA c.A.length c.cA, .slice c.adB c.B.length c.cB]
/-- It lies right. -/
structure CfgH (w : World) (c : C17) : Prop where
  p : I64 c.P
  k : I64 c.K
  a : NumsAt w c.adA c.A
  b : NumsAt w c.adB c.B
  la : c.A.length ≤ 17592186044416
  lb : c.B.length ≤ 17592186044416
theorem CfgH.fr {w w' : World} {c : C17} (h : CfgH w c) (f : Fr (fun _ => False) w w') : CfgH w' c := ⟨h.p, h.k, h.a.fr f, h.b.fr f, h.la, h.lb⟩
/-- What isn't long. -/
structure Short17 (c : C17) (l : List O17) : Prop where
  win : l ≠ [] → c.A.length + c.B.length ≤ 1500
  len : l.length ≤ 250
  ops : ∀ i (hi : i < l.length), l[i].W.length ≤ 1500
  P : c.P ≤ 512
/-- What 'long' answers. -/
def LongR (c : C17) (l : List O17) (e : Ending) : Prop := ∃ b : Bool, e = .returned (.bool b) ∧ (b = false → Short17 c l)
set_option maxRecDepth 20000 in
set_option maxHeartbeats 2000000 in
theorem long_any {w : World} {ad : Option Addr} {cap : Nat} {l : List O17} {c : C17} (h : OpsH w ad l) (hc : CfgH w c) (hmax : l.length ≤ maxLen) : Calls Tryz.prog 7 #[c.val, .slice ad l.length cap] w fun e w' => LongR c l e ∧ Fr (fun _ => False) w w' := by
  have HO := hid h
  have la := hc.la
  have lb := hc.lb
  obtain ⟨p1, p2⟩ := hc.p
  clear h hc
  unfold maxLen at hmax
  unfold C17.val
  obtain ⟨P, K, adA, cA, A, adB, cB, B⟩ := c
  simp only at la lb p1 p2 ⊢
  have HL : Hid ((l ≠ [] → A.length + B.length ≤ 1500) → (∀ i (hi : i < l.length), l[i].W.length ≤ 1500) → l.length ≤ 250 → P ≤ 512 → Short17 ⟨P, K, adA, cA, A, adB, cB, B⟩ l) := fun a b c d => ⟨a, c, b, d⟩
  generalize A.length = nA at *
  generalize B.length = nB at *
  have r0 : IntKind.i64.wrap ((nA : Int) + nB) = ((nA + nB : Nat) : Int) := by rw [IntKind.wrap_i64]; omega
  go_enter Tryz.func7, Tryz.ntmps7
  have HB : Hid (∀ wr, Fr (fun _ => False) (w.alloc (.cells #[.int .i64 P, .int .i64 K, .slice adA nA cA, .slice adB nB cB] 26)) wr → wr.cell? ⟨w.heap.size, 0, none⟩ = some (.int .i64 P)) := fun wr f => by
    rw [World.cell?_of_block (f.block w.heap.size (by simp) id)]
    unfold World.cell?
    rw [heap_alloc_new]
    rfl
  have HF0 : Hid (Fr (fun _ => False) (w.alloc (.cells #[.int .i64 P, .int .i64 K, .slice adA nA cA, .slice adB nB cB] 26)) (w.alloc (.cells #[.int .i64 P, .int .i64 K, .slice adA nA cA, .slice adB nB cB] 26))) := Fr.refl _ _
  have HW : Hid (∀ wr, Fr (fun _ => False) (w.alloc (.cells #[.int .i64 P, .int .i64 K, .slice adA nA cA, .slice adB nB cB] 26)) wr → Fr (fun _ => False) w wr) := fun wr f => Fr.trans ((Fr.refl _ _).alloc _) f
  go_wp2
  generalize w.alloc (.cells #[.int .i64 P, .int .i64 K, .slice adA nA cA, .slice adB nB cB] 26) = w0 at *
  go_loopw [5, 17] (fun n i wr => ∃ (j N : Nat), j ≤ l.length ∧ i = .int .i64 j ∧ n = .int .i64 N ∧ N ≤ 35184372088832 + 1500 * j ∧ Hid (nA + nB ≤ N ∧ (0 < j → N ≤ 1500) ∧ ∀ k (hk : k < l.length), k < j → l[k].W.length ≤ 1500) ∧ Hid (Fr (fun _ => False) w0 wr)) (fun _ i _ => l.length - (intOf i).toNat)
  case atStart => exact ⟨0, nA + nB, by omega, rfl, by simp, by omega, ⟨by omega, fun e => by omega, fun k _ hk => by omega⟩, HF0⟩
  case round =>
    obtain ⟨j, N, hj, rfl, rfl, hN, HK, HF⟩ := hrel
    have hc0 := HB.out _ HF.out
    by_cases hlt : j < l.length
    · obtain ⟨bb, off, rfl, hbb, hc1, hc2, hc3, hc4, _, _, _, hwl⟩ := HO.out.fr (HW.out _ HF.out) j hlt
      have HJ : Hid (l[j].W.length = l[j].W.length) := rfl
      generalize hk : l[j] = o at hc1 hc2 hc3 hc4 hwl
      obtain ⟨kd, n, two, oad, ocap, oW⟩ := o
      simp only at hc1 hc2 hc3 hc4 hwl
      have HS : Hid (l[j].W.length = oW.length) := by show _ = _; rw [hk]
      have HF2 := hid (HF.out.alloc (.cells #[.int .i64 kd, .int .i64 n, .bool two, .slice oad oW.length ocap] 44))
      clear hk HJ HF hc0
      generalize oW.length = m at *
      have hN2 : N ≤ 35184372088832 + 1500 ∨ True := .inr trivial
      by_cases hbig : 1500 < N
      · have hj0 : j = 0 := by
          by_cases e : j = 0
          · exact e
          · have := HK.out.2.1 (by omega); omega
        subst hj0
        have r1 : IntKind.i64.wrap (2 + (m : Int)) = 2 + m := by rw [IntKind.wrap_i64]; omega
        have r2 : IntKind.i64.wrap ((N : Int) + (2 + m)) = N + (2 + m) := by rw [IntKind.wrap_i64]; omega
        have hb : (1500 : Int) < N + (2 + m) := by omega
        clear HK HO HB hN hN2
        simp only [Nat.zero_mul, Nat.add_zero] at hc1 hc2 hc3 hc4
        go_wp2
        go_ret
        exact ⟨⟨true, by simp, fun e => by cases e⟩, HW.out _ HF2.out⟩
      · have r1 : IntKind.i64.wrap (2 + (m : Int)) = 2 + m := by rw [IntKind.wrap_i64]; omega
        have r2 : IntKind.i64.wrap ((N : Int) + (2 + m)) = N + (2 + m) := by rw [IntKind.wrap_i64]; omega
        by_cases hb : (1500 : Int) < N + (2 + m)
        · clear HK HO HB hN hN2
          go_wp2
          go_ret
          exact ⟨⟨true, by simp, fun e => by cases e⟩, HW.out _ HF2.out⟩
        · have hb2 : (N : Int) + (2 + m) ≤ 1500 := by omega
          clear HO HB hN2
          go_wp2
          go_roundw
          case rel =>
            refine ⟨j + 1, N + (2 + m), by omega, by go_num, by go_num, by omega, ⟨by have := HK.out.1; omega, fun _ => by omega, fun k hk hkj => ?_⟩, HF2⟩
            by_cases e : k = j
            · subst e
              have := HS.out
              omega
            · exact HK.out.2.2 k hk (by omega)
          case measure => simp [intOf]; omega
    · obtain rfl : l.length = j := by omega
      by_cases h1 : (250 : Int) < l.length
      · go_wp2
        go_ret
        exact ⟨⟨true, by simp, fun e => by cases e⟩, HW.out _ HF.out⟩
      · have h2 : (l.length : Int) ≤ 250 := by omega
        by_cases h3 : (512 : Int) < P
        · go_wp2
          go_ret
          exact ⟨⟨true, by simp, fun e => by cases e⟩, HW.out _ HF.out⟩
        · have h4 : P ≤ 512 := by omega
          go_wp2
          go_ret
          refine ⟨⟨false, by simp, fun _ => HL.out (fun e => ?_) (fun i hi => HK.out.2.2 i hi hi) (by omega) h4⟩, HW.out _ HF.out⟩
          have h5 : 0 < l.length := List.length_pos_iff.2 e
          have := HK.out.2.1 h5
          have := HK.out.1
          omega
end Go.Proofs.YtejbdbjccjkfdaaGreatDoor

namespace Go.Proofs.YtejbdbjccjkfdaaGreatDoor
open Go.RowKit
open An

theorem app_none {P : Program} {w : World} (t ty e : TypeId) (i : TypeInfo) (ht : P.underlying t = some (.slice e)) (hi : P.info? e = some i) (a : Addr) (ad : Option Addr) (c : Nat) :
    (Builtin.append_ #[t, t] ty #[.slice (some a) 0 0, .slice ad 0 c]).run P w = .ok (.slice (some a) 0 0) w := by
  cases ad <;> simp [Builtin.append_, run_underlying ht, sizeOf, typeInfo, hi, Builtin.lenOf, Builtin.firstCells, loadCells, loadCellsFrom, storeCells]
/-- What is laid anew. -/
theorem run_dup {w : World} {ad : Option Addr} {l : List Int} (ty : TypeId) (c : Nat) (hl : NumsAt w ad l) (hn : l.length ≤ 17592186044416) : ∃ ad' cap' w', (Builtin.append_ #[24, 24] ty #[.slice (some ⟨w.heap.size, 0, none⟩) 0 0, .slice ad l.length c]).run Tryz.prog (w.alloc (.cells #[] 3)) = .ok (.slice ad' l.length cap') w' ∧ NumsAt w' ad' l ∧ Fr (fun _ => False) w w' ∧ ∀ b off, ad' = some ⟨b, off, none⟩ → w.heap.size ≤ b := by
  obtain ⟨i0, hi, hz0, hz1, hz2⟩ := info_parts Tryz.infoInt
  have f0 : Fr (fun _ => False) w (w.alloc (.cells #[] 3)) := (Fr.refl _ _).alloc _
  cases hL : l with
  | nil =>
    refine ⟨_, _, _, app_none _ _ _ i0 Tryz.underlying24 hi _ ad c, nums_none _ _, f0, fun b off e => ?_⟩
    simp only [Option.some.injEq, Addr.mk.injEq] at e
    omega
  | cons x r =>
    rw [← hL]
    have h0 : 0 < l.length := by rw [hL]; simp
    obtain ⟨B, off, rfl, hB, _⟩ := hl 0 h0
    have hl' := hl.fr f0
    obtain ⟨g, cap, w', hr, h2, h3, h4⟩ := run_append_sep (P := Tryz.prog) (w.alloc (.cells #[] 3)) w.heap.size 24 ty 3 i0 (.int .i64 0) 1 8 Tryz.underlying24 hi hz0 hz1 hz2 rfl (by decide) (.slice (some ⟨w.heap.size, 0, none⟩) 0 0) 0 [] ⟨by simp, .inr ⟨w.heap.size, 0, #[], rfl, Nat.le_refl _, heap_alloc_new w _, Nat.le_refl _, by unfold maxLen; omega, by simp, by simp⟩⟩ ⟨B, off, none⟩ l.length c h0 (ic l) (by rw [ic_length]; simp) (fun j u hj => by
        have hj2 : j < l.length := by have := (List.getElem?_eq_some_iff.1 hj).1; simpa [ic] using this
        obtain ⟨b, off', h1, h2, h3⟩ := hl' j hj2
        cases h1
        rw [add_plain, h3, ← hj]
        simp [ic, hj2]) (ic_one l) (by unfold maxLen; omega) (by omega) (by simp)
    rw [Nat.zero_add] at hr h2
    rw [List.nil_append] at h2
    refine ⟨_, _, w', hr, nums_row h2, ?_, fun b off e => ?_⟩
    · refine Fr.new (Fr.grown (S := fun i => w.heap.size ≤ i) ((Fr.refl _ _).alloc _) h3 fun k e => .inl ?_)
      simp only [Value.ownBlock, Option.some.injEq] at e
      omega
    · simp only [Option.some.injEq, Addr.mk.injEq] at e
      have := (h2.lt g rfl).1
      omega
end Go.Proofs.YtejbdbjccjkfdaaGreatDoor

namespace Go.Proofs.YtejbdbjccjkfdaaGreatDoor
open Go.RowKit
open An

/-- The document's map of pages, as a thing. -/
def Mt (y k : Nat) (has : List Bool) (w : World) (Z : Nat → Prop) : Prop := ∃ t, Cq.Rf w y t k has ∧ Z y ∧ Z t ∧ ∀ i, Z i → i < w.heap.size
theorem Mt.good (y k : Nat) (has : List Bool) : Good (Mt y k has) :=
  ⟨fun ⟨t, h1, h2, h3, h4⟩ f hs => ⟨t, h1.carry f (hs _ h2) (hs _ h3), h2, h3, fun i hi => Nat.lt_of_lt_of_le (h4 i hi) f.size⟩, fun ⟨t, h1, h2, h3, _⟩ k1 k2 => ⟨t, h1, k1 _ h2, k1 _ h3, k2⟩⟩
/-- The document's heap. -/
def Rh (r _x _y _k : Nat) (_H : Hp) (w : World) (Z : Nat → Prop) : Prop := Z r ∧ ∀ i, Z i → i < w.heap.size
theorem Rh.good (r x y k : Nat) (H : Hp) : Good (Rh r x y k H) := ⟨fun h f _ => ⟨h.1, fun i hi => Nat.lt_of_lt_of_le (h.2 i hi) f.size⟩, fun h k1 k2 => ⟨k1 _ h.1, k2⟩⟩
def Ad (x y k : Nat) (M : Ms) : World → (Nat → Prop) → Prop := Both (Am 78 x M.bs M.ss) (Mt y k M.has)
theorem Ad.good (x y k : Nat) (M : Ms) : Good (Ad x y k M) := Both.good (Am.good _ _ _ _) (Mt.good _ _ _)
section
variable {w : World} {x y r k : Nat} {U : Nat → Prop} {M : Ms} {H : Hp} {W : List Int} {ad : Option Addr} {cap : Nat}
set_option maxRecDepth 20000 in
theorem rh_new (hn : NumsAt w ad W) (hW : W.length ≤ 17592186044416) (x y k : Nat) : Calls Tryz.prog 37 #[.pointer (some ⟨x, 0, none⟩), .pointer (some ⟨y, 0, none⟩), .slice ad W.length cap] w fun e w' => ∃ r Z, e = .returned (.pointer (some ⟨r, 0, none⟩)) ∧ Rh r x y k ⟨W, [], [], fun _ => []⟩ w' Z ∧ Fr (fun _ => False) w w' ∧ ∀ i, Z i → w.heap.size ≤ i ∧ i < w'.heap.size := by
  obtain ⟨ad', cap', w1, hru, _, hfr, _⟩ := run_dup 24 cap hn hW
  have HF := hid hfr
  clear hn hW hfr
  generalize W.length = wl at *
  go_enter Tryz.func37, Tryz.ntmps37
  go_wp2_with (at_builtin; refine wpList_app17 rfl (.tmp 9) (.tmp 10) 24 24 rfl rfl rfl hru ?_)
  go_wp2
  go_ret
  refine ⟨_, fun i => w.heap.size ≤ i ∧ i < _, by simp; rfl, ⟨⟨?_, ?_⟩, fun i hi => hi.2⟩, (HF.out.alloc _).alloc _, fun i hi => hi⟩
  · have := HF.out.size
    simp
    omega
  · simp
end
end Go.Proofs.YtejbdbjccjkfdaaGreatDoor

namespace Go.Proofs.YtejbdbjccjkfdaaGreatDoor
open Go.RowKit
open An

/-- What 'made' lays: the pair, the program's two heaps, the document's. -/
def pairC (a m h h' x y r r' : Nat) : Array Value := #[.pointer (some ⟨a, 0, none⟩), .pointer (some ⟨m, 0, none⟩), .pointer (some ⟨h, 0, none⟩), .pointer (some ⟨h', 0, none⟩), .pointer (some ⟨x, 0, none⟩), .pointer (some ⟨y, 0, none⟩), .pointer (some ⟨r, 0, none⟩), .pointer (some ⟨r', 0, none⟩)]
def mN (n : Nat) : Ms := ⟨List.replicate n false, List.replicate (n * 512) 0, []⟩
def hN (l : List Int) : Hp := ⟨l, [], [], fun _ => []⟩
def D2 (x y k : Nat) (M : Ms) (r : Nat) (H : Hp) (r' : Nat) (H' : Hp) : World → (Nat → Prop) → Prop := Both (Ad x y k M) (Both (Rh r x y k H) (Rh r' x y k H'))
theorem D2.good (x y k : Nat) (M : Ms) (r : Nat) (H : Hp) (r' : Nat) (H' : Hp) : Good (D2 x y k M r H r' H') := Both.good (Ad.good ..) (Both.good (Rh.good ..) (Rh.good ..))
/-- Nothing more is said of it. -/
def Anyt (w : World) (Z : Nat → Prop) : Prop := ∀ i, Z i → i < w.heap.size
theorem Anyt.good : Good Anyt := ⟨fun h f _ i hi => Nat.lt_of_lt_of_le (h i hi) f.size, fun _ _ k2 => k2⟩
theorem box_cell {w : World} {B : Nat} {cs : Array Value} {T : TypeId} (h : w.heap[B]? = some (.cells cs T (0, 0))) (i : Nat) {v : Value} (hv : cs[i]? = some v) : w.cell? ⟨B, i, none⟩ = some v := by unfold World.cell?; rw [h]; exact hv
theorem box_open {w : World} {B : Nat} {cs : Array Value} {T : TypeId} (h : w.heap[B]? = some (.cells cs T (0, 0))) (i : Nat) : w.frozen? ⟨B, i, none⟩ = false := by unfold World.frozen?; rw [h]; simp
set_option maxRecDepth 20000 in
set_option maxHeartbeats 2000000 in
theorem made_no {W w : World} {ts : List (World → (Nat → Prop) → Prop)} (q : Things W w ts) {c : C17} (hn : ¬ Cq.Cfg c.P c.K) : Calls Tryz.prog 5 #[c.val] w fun e w' => e = .returned (.pointer none) ∧ Things W w' ts := by
  have H1 : Hid (∀ w, Calls Tryz.prog 32 #[.agg #[.int .i64 c.P, .int .i64 c.K]] w fun e w' => e = .returned (.tuple #[.pointer none, .int .i64 12]) ∧ Fr (fun _ => False) w w') := fun w => ct_new_no hn w
  have HQ : Hid (∀ w', Fr (fun _ => False) w w' → Things W w' ts) := fun w' f => q.kept f
  clear q hn
  unfold C17.val
  obtain ⟨P, K, adA, cA, A, adB, cB, B⟩ := c
  simp only at *
  have HB : Hid (∀ w', Fr (fun _ => False) ((w.alloc (.cells #[.int .i64 P, .int .i64 K, .slice adA A.length cA, .slice adB B.length cB] 26)).alloc (.cells #[.pointer none, .pointer none, .pointer none, .pointer none, .pointer none, .pointer none, .pointer none, .pointer none] 41)) w' → w'.heap[w.heap.size + 1]? = some (.cells #[.pointer none, .pointer none, .pointer none, .pointer none, .pointer none, .pointer none, .pointer none, .pointer none] 41 (0, 0)) ∧ Fr (fun i => i = w.heap.size + 1) w w') := fun w' f => ⟨by rw [f.block _ (by simp) id]; exact heap_two _ _ _, Fr.trans' (((Fr.refl _ _).alloc _).alloc _) f fun _ _ e => e.elim⟩
  go_enter Tryz.func5, Tryz.ntmps5
  go_wp2_with fail
  refine (H1.out _).mono ?_
  rintro e w1 ⟨rfl, f1⟩
  obtain ⟨hb, hF⟩ := HB.out w1 f1
  have c1 := box_cell hb 1 rfl
  have o1 := box_open hb 1
  have HF : Hid (Fr (fun _ => False) w (w1.setCell ⟨w.heap.size + 1, 1, none⟩ (.pointer none))) := Fr.mono (Fr.setCell (S := fun i => i = w.heap.size + 1) hF (p := ⟨w.heap.size + 1, 1, none⟩) rfl _) fun i hi e => by omega
  clear f1 HB hb hF
  go_wp2
  go_ret
  exact ⟨by simp, HQ.out _ HF.out⟩
end Go.Proofs.YtejbdbjccjkfdaaGreatDoor
