/-
  Calls of a tenant as they come in; the laws' own 'long'.
  Numbers that came in, laid anew: append([]int{}, l...).
  The laws' own 'made': a tenant of a new arena.
  One object and two handles of it, the second with some of the rights: what each call of the law TenantShares answers and leaves.
-/
import Derived.Test.YtioplfbkfokkfaaGreatDoorTnAwake
import Derived.LoopTactic
import Derived.Test.YtioplfbkfokkfaaGreatDoorHpTopF
import Derived.Deep.RegionHeld3
namespace Go.Proofs.YtioplfbkfokkfaaGreatDoor
open Go.RowKit
open An

structure C18 where
  P : Int
  K : Int
  q : Int
  id : Int
  se : Int
  ad : Option Addr
  cap : Nat
  W : List Int
def C18.cs (c : C18) : Array Value := #[.int .i64 c.P, .int .i64 c.K, .int .i64 c.q, .int .i64 c.id, .int .i64 c.se, .slice c.ad c.W.length c.cap]
structure CfgT (w : World) (c : C18) : Prop where
  p : I64 c.P
  k : I64 c.K
  q : I64 c.q
  id : I64 c.id
  se : I64 c.se
  W : NumsAt w c.ad c.W
  lW : c.W.length ≤ 17592186044416
end Go.Proofs.YtioplfbkfokkfaaGreatDoor

namespace Go.Proofs.YtioplfbkfokkfaaGreatDoor
open Go.RowKit
open An

theorem app_none {P : Program} {w : World} (t ty e : TypeId) (i : TypeInfo) (ht : P.underlying t = some (.slice e)) (hi : P.info? e = some i) (a : Addr) (ad : Option Addr) (c : Nat) :
    (Builtin.append_ #[t, t] ty #[.slice (some a) 0 0, .slice ad 0 c]).run P w = .ok (.slice (some a) 0 0) w := by
  cases ad <;> simp [Builtin.append_, run_underlying ht, sizeOf, typeInfo, hi, Builtin.lenOf, Builtin.firstCells, loadCells, loadCellsFrom, storeCells]
theorem run_dup {w : World} {ad : Option Addr} {l : List Int} (ty : TypeId) (c : Nat) (hl : NumsAt w ad l) (hn : l.length ≤ 17592186044416) : ∃ ad' cap' w', (Builtin.append_ #[24, 24] ty #[.slice (some ⟨w.heap.size, 0, none⟩) 0 0, .slice ad l.length c]).run Tryz.prog (w.alloc (.cells #[] 3)) = .ok (.slice ad' l.length cap') w' ∧ NumsAt w' ad' l ∧ Fr (fun _ => False) w w' ∧ ∀ b off, ad' = some ⟨b, off, none⟩ → w.heap.size ≤ b := by
  obtain ⟨i0, hi, hz0, hz1, hz2⟩ := info_parts Tryz.infoInt
  have f0 : Fr (fun _ => False) w (w.alloc (.cells #[] 3)) := (Fr.refl _ _).alloc _
  cases hL : l with
  | nil =>
    refine ⟨_, _, _, app_none _ _ _ i0 Tryz.underlying24 hi _ ad c, nums_none _ _, f0, fun b off e => ?_⟩
    simp only [Option.some.injEq, Addr.mk.injEq] at e
    omega
  | cons x r =>
    rw [← hL]
    have h0 : 0 < l.length := by rw [hL]; simp
    obtain ⟨B, off, rfl, hB, _⟩ := hl 0 h0
    have hl' := hl.fr f0
    obtain ⟨g, cap, w', hr, h2, h3, h4⟩ := run_append_sep (P := Tryz.prog) (w.alloc (.cells #[] 3)) w.heap.size 24 ty 3 i0 (.int .i64 0) 1 8 Tryz.underlying24 hi hz0 hz1 hz2 rfl (by decide) (.slice (some ⟨w.heap.size, 0, none⟩) 0 0) 0 [] ⟨by simp, .inr ⟨w.heap.size, 0, #[], rfl, Nat.le_refl _, heap_alloc_new w _, Nat.le_refl _, by unfold maxLen; omega, by simp, by simp⟩⟩ ⟨B, off, none⟩ l.length c h0 (ic l) (by rw [ic_length]; simp) (fun j u hj => by
        have hj2 : j < l.length := by have := (List.getElem?_eq_some_iff.1 hj).1; simpa [ic] using this
        obtain ⟨b, off', h1, h2, h3⟩ := hl' j hj2
        cases h1
        rw [add_plain, h3, ← hj]
        simp [ic, hj2]) (ic_one l) (by unfold maxLen; omega) (by omega) (by simp)
    rw [Nat.zero_add] at hr h2
    rw [List.nil_append] at h2
    refine ⟨_, _, w', hr, nums_row h2, ?_, fun b off e => ?_⟩
    · refine Fr.new (Fr.grown (S := fun i => w.heap.size ≤ i) ((Fr.refl _ _).alloc _) h3 fun k e => .inl ?_)
      simp only [Value.ownBlock, Option.some.injEq] at e
      omega
    · simp only [Option.some.injEq, Addr.mk.injEq] at e
      have := (h2.lt g rfl).1
      omega
theorem app_arm {P : Program} {w w' : World} {ops : Array Oper} {o : Oper} {a : Act} {K : Act → World → Prop} {Q : Exit → Act → World → Prop} (hgd : o.guard = none) (s x : Operand) (t u : TypeId) (ho : o.op = .call { callee := .builtin .append, args := #[s, x], argTypes := #[t, u] }) {y z v : Value} (hs : a.eval s = y) (hx : a.eval x = z)
    (hrun : (Builtin.append_ #[t, u] o.type #[y, z]).run P w = .ok v w') (hK : K (a.put o.dst v) w') : if Region.wanted o (yielded ops a.tmps) = true then o.wp P a w K Q else K (a.put o.dst undef) w := by
  have hw : Region.wanted o (yielded ops a.tmps) = true := by unfold Region.wanted; rw [hgd]
  rw [if_pos hw]
  unfold Oper.wp
  simp [execOp, ho, resolve, invoke, builtin, hs, hx, hrun, Result.andThen]
  exact hK
end Go.Proofs.YtioplfbkfokkfaaGreatDoor

namespace Go.Proofs.YtioplfbkfokkfaaGreatDoor
open Go.RowKit
open An

theorem tn_results4 {fn : Func} {t u v x : Tmp} (h : fn.results = #[.tmp t, .tmp u, .tmp v, .tmp x]) (tmps : Array Value) (P : Program) (w : World) :
    (results fn tmps).run P w = .ok (.tuple #[tmps.getD t undef, tmps.getD u undef, tmps.getD v undef, tmps.getD x undef]) w := by
  simp [results, h]
section
variable {W w : World} {ts : List (World → (Nat → Prop) → Prop)}
theorem Things.tail {P : World → (Nat → Prop) → Prop} (h : Things W w (P :: ts)) : Things W w ts := by
  have h2 : Things W w (ts ++ [P]) := h.order (fun j => if j = 0 then ts.length else j - 1) (fun j => if j = ts.length then 0 else j + 1) (fun j hj => by
    simp only [List.length_cons, List.length_append, List.length_nil] at hj ⊢
    by_cases h0 : j = 0
    · simp [h0]
    · simp only [if_neg h0]
      refine ⟨by omega, ?_⟩
      rw [if_neg (by omega)]
      omega) fun j hj => by
    simp only [List.length_cons, List.length_append, List.length_nil] at hj ⊢
    by_cases h0 : j = ts.length
    · subst h0
      simp
    · simp only [if_neg h0]
      refine ⟨by omega, by simp, ?_⟩
      rw [List.getElem?_append_left (by omega)]
      simp
  exact Things.less h2
def mN (n : Nat) : Ms := ⟨List.replicate n false, List.replicate (n * 512) 0, []⟩
theorem ms_new {n k : Nat} (hc : Cq.Cfg n k) : MsOk (mN n) := (hc_new hc (l := []) (by simp)).ms
def MadeR (W : World) (ts : List (World → (Nat → Prop) → Prop)) (c : C18) (e : Ending) (w' : World) : Prop :=
  (∃ v1 v2 v3 E, E ≠ 0 ∧ e = .returned (.tuple #[v1, v2, v3, .int .i64 E]) ∧ Things W w' ts) ∨
  (∃ (n k : Nat) (x : Tp) (a m : Nat) (ad : Option Addr) (B : Nat) (ob : Obj), Cq.Cfg n k ∧ c.P = n ∧ c.K = k ∧ x.k = k ∧ x.id = c.id ∧ x.pk = c.q ∧ fitE 0 c.q c.q (pgI n k c.W) = 0 ∧ ((0 ≤ c.id ∧ c.id ≤ 7) ∧ 1 ≤ c.se ∧ c.se ≤ 17592186044416) ∧ e = .returned (.tuple #[.pointer (some ⟨x.T, 0, none⟩), .pointer (some ⟨a, 0, none⟩), .pointer (some ⟨m, 0, none⟩), .int .i64 0]) ∧ Things W w' (tnl x (newT (mN n) c.W c.id c.se c.q) (Lv ad c.W :: Blk B ob :: ts)))
set_option maxRecDepth 20000 in
set_option maxHeartbeats 2000000 in
theorem made_no (g : Things W w ts) {c : C18} (hcf : ¬ Cq.Cfg c.P c.K) : Calls Tryz.prog 15 #[.agg c.cs] w fun e w' => MadeR W ts c e w' := by
  have H1 : Hid (∀ w, Calls Tryz.prog 23 #[.agg #[.int .i64 c.P, .int .i64 c.K]] w fun e w' => e = .returned (.tuple #[.pointer none, .int .i64 12]) ∧ Fr (fun _ => False) w w') := fun w => ct_new_no hcf w
  obtain ⟨P, K, q, id, se, ad0, cap0, W0⟩ := c
  have G : Hid (Things W (w.alloc (.cells #[.int .i64 P, .int .i64 K, .int .i64 q, .int .i64 id, .int .i64 se, .slice ad0 W0.length cap0] 26)) ts) := g.kept ((Fr.refl _ _).alloc _)
  have HR : Hid (∀ v1 v2 v3 E w', E ≠ 0 → Things W w' ts → MadeR W ts ⟨P, K, q, id, se, ad0, cap0, W0⟩ (.returned (.tuple #[v1, v2, v3, .int .i64 E])) w') := fun v1 v2 v3 E w' h0 h => .inl ⟨v1, v2, v3, E, h0, rfl, h⟩
  unfold C18.cs
  simp only at H1
  clear g hcf
  generalize W0.length = wl at *
  go_enter Tryz.func15, Tryz.ntmps15
  go_wp2_with fail
  refine (H1.out _).mono ?_
  rintro e w1 ⟨rfl, f1⟩
  have G1 := hid (G.out.kept f1)
  clear f1 G H1
  go_wp2
  (try simp only [Exit.inBlock, Exit.then]); refine bodyPost_ret (tn_results4 rfl _ _ _) rfl ?_
  simp
  exact HR.out _ _ _ _ _ (by decide) G1.out
set_option maxRecDepth 20000 in
set_option maxHeartbeats 2000000 in
theorem made_yes (g : Things W w ts) (gr : G17 W) {n k : Nat} (cf : Cq.Cfg n k) {q id se : Int} {ad0 : Option Addr} {cap0 : Nat} {W0 : List Int} (hc : CfgT W ⟨n, k, q, id, se, ad0, cap0, W0⟩) : Calls Tryz.prog 15 #[.agg (C18.cs ⟨n, k, q, id, se, ad0, cap0, W0⟩)] w fun e w' => MadeR W ts ⟨n, k, q, id, se, ad0, cap0, W0⟩ e w' := by
  have hn : n ≤ 4096 := by have := cf.2.2.2.1; omega
  have hk : 1 ≤ k ∧ k ≤ 32 := by have := cf.1; have := cf.2.1; omega
  have r0 : IntKind.i64.wrap ((n : Int) * 512) = ((n * 512 : Nat) : Int) := by rw [IntKind.wrap_i64]; omega
  have HR : Hid (∀ v1 v2 v3 E w', E ≠ 0 → Things W w' ts → MadeR W ts ⟨n, k, q, id, se, ad0, cap0, W0⟩ (.returned (.tuple #[v1, v2, v3, .int .i64 E])) w') := fun v1 v2 v3 E w' h0 h => .inl ⟨v1, v2, v3, E, h0, rfl, h⟩
  have hlW : W0.length ≤ 17592186044416 := hc.lW
  have G : Hid (Things W (w.alloc (.cells #[.int .i64 n, .int .i64 k, .int .i64 q, .int .i64 id, .int .i64 se, .slice ad0 W0.length cap0] 26)) (Blk w.heap.size (.cells #[.int .i64 n, .int .i64 k, .int .i64 q, .int .i64 id, .int .i64 se, .slice ad0 W0.length cap0] 26 (0, 0)) :: ts)) := Things.rot [] ts (g.blk _)
  have H1 : Hid (∀ w1, Things W w1 ((Blk w.heap.size (.cells #[.int .i64 n, .int .i64 k, .int .i64 q, .int .i64 id, .int .i64 se, .slice ad0 W0.length cap0] 26 (0, 0))) :: ts) → Calls Tryz.prog 23 #[.agg #[.int .i64 n, .int .i64 k]] w1 fun e w' => ∃ m, e = .returned (.tuple #[.pointer (some ⟨m, 0, none⟩), .int .i64 0]) ∧ Things W w' (Ct m k (mN n).has :: (Blk w.heap.size (.cells #[.int .i64 n, .int .i64 k, .int .i64 q, .int .i64 id, .int .i64 se, .slice ad0 W0.length cap0] 26 (0, 0))) :: ts)) := fun w1 h => (q_map h gr cf).mono fun e w' ⟨m, he, h2⟩ => ⟨m, he, Things.rot [] ((Blk w.heap.size (.cells #[.int .i64 n, .int .i64 k, .int .i64 q, .int .i64 id, .int .i64 se, .slice ad0 W0.length cap0] 26 (0, 0))) :: ts) h2⟩
  have H2 : Hid (∀ w1 m, Things W w1 (Ct m k (mN n).has :: (Blk w.heap.size (.cells #[.int .i64 n, .int .i64 k, .int .i64 q, .int .i64 id, .int .i64 se, .slice ad0 W0.length cap0] 26 (0, 0))) :: ts) → Calls Tryz.prog 22 #[.int .i64 (n * 512 : Nat)] w1 fun e w' => ∃ a, e = .returned (.tuple #[.pointer (some ⟨a, 0, none⟩), .int .i64 0]) ∧ Things W w' (Ac a m k (mN n) :: (Blk w.heap.size (.cells #[.int .i64 n, .int .i64 k, .int .i64 q, .int .i64 id, .int .i64 se, .slice ad0 W0.length cap0] 26 (0, 0))) :: ts)) := fun w1 m h => (q_arena h (n * 512) (by omega)).mono fun e w' ⟨a, he, h2⟩ => ⟨a, he, by
    have h3 : Things W w' (Both (Ct m k (mN n).has) (Am 104 a (mN n).bs (mN n).ss) :: (Blk w.heap.size (.cells #[.int .i64 n, .int .i64 k, .int .i64 q, .int .i64 id, .int .i64 se, .slice ad0 W0.length cap0] 26 (0, 0))) :: ts) := Things.join (ts := Ct m k (mN n).has :: (Blk w.heap.size (.cells #[.int .i64 n, .int .i64 k, .int .i64 q, .int .i64 id, .int .i64 se, .slice ad0 W0.length cap0] 26 (0, 0))) :: ts) h2 0 rfl
    exact h3.view 0 rfl (Ac.good a m k (mN n)) fun _ => Both.swap⟩
  have HD : Hid (∀ w1 a m, Things W w1 (Ac a m k (mN n) :: (Blk w.heap.size (.cells #[.int .i64 n, .int .i64 k, .int .i64 q, .int .i64 id, .int .i64 se, .slice ad0 W0.length cap0] 26 (0, 0))) :: ts) → ∃ ad' cap' w', (Builtin.append_ #[24, 24] 24 #[.slice (some ⟨w1.heap.size, 0, none⟩) 0 0, .slice ad0 W0.length cap0]).run Tryz.prog (w1.alloc (.cells #[] 3)) = .ok (.slice ad' W0.length cap') w' ∧ Things W w' (Both (Ac a m k (mN n)) (Lv ad' W0) :: (Blk w.heap.size (.cells #[.int .i64 n, .int .i64 k, .int .i64 q, .int .i64 id, .int .i64 se, .slice ad0 W0.length cap0] 26 (0, 0))) :: ts)) := fun w1 a m h => by
    obtain ⟨ad', cap', w', h1, h2, h3, h4⟩ := run_dup (w := w1) 24 cap0 (hc.W.fr h.nw.fr) hlW
    refine ⟨ad', cap', w', h1, ?_⟩
    have h5 : Things W w' ((Ac a m k (mN n) :: (Blk w.heap.size (.cells #[.int .i64 n, .int .i64 k, .int .i64 q, .int .i64 id, .int .i64 se, .slice ad0 W0.length cap0] 26 (0, 0))) :: ts) ++ [Lv ad' W0]) := h.more (Lv.good _ _) (Lv.new h2) h3 fun j ⟨⟨off, e⟩, h0⟩ => ⟨h4 j off e, (Lv.new h2).2.2 j ⟨⟨off, e⟩, h0⟩⟩
    exact Things.join (ts := Ac a m k (mN n) :: (Blk w.heap.size (.cells #[.int .i64 n, .int .i64 k, .int .i64 q, .int .i64 id, .int .i64 se, .slice ad0 W0.length cap0] 26 (0, 0))) :: ts) h5 0 rfl
  have H3 : Hid (∀ w1 a m ad' cap', Things W w1 (Both (Ac a m k (mN n)) (Lv ad' W0) :: (Blk w.heap.size (.cells #[.int .i64 n, .int .i64 k, .int .i64 q, .int .i64 id, .int .i64 se, .slice ad0 W0.length cap0] 26 (0, 0))) :: ts) → Calls Tryz.prog 7 #[.pointer (some ⟨a, 0, none⟩), .pointer (some ⟨m, 0, none⟩), .int .i64 id, .int .i64 se, .int .i64 q, .slice ad' W0.length cap'] w1 fun e w' => ∃ v E, e = .returned (.tuple #[v, .int .i64 E]) ∧ (w'.cell? ⟨w.heap.size, 2, none⟩ = some (.int .i64 q) ∧ w'.cell? ⟨w.heap.size, 3, none⟩ = some (.int .i64 id) ∧ w'.cell? ⟨w.heap.size, 4, none⟩ = some (.int .i64 se) ∧ w'.cell? ⟨w.heap.size, 5, none⟩ = some (.slice ad0 W0.length cap0)) ∧ ∀ a m, MadeR W ts ⟨n, k, q, id, se, ad0, cap0, W0⟩ (.returned (.tuple #[v, .pointer (some ⟨a, 0, none⟩), .pointer (some ⟨m, 0, none⟩), .int .i64 E])) w') := fun w1 a m ad' cap' h => by
    by_cases hi : (0 ≤ id ∧ id ≤ 7) ∧ 1 ≤ se ∧ se ≤ 17592186044416
    · refine (n_new_ok (cap := cap') h gr (ms_new cf) hk.1 hk.2 (by simp [mN]; exact hn) hlW hi rfl).mono fun e w' ⟨x, hx, he, h2⟩ => ⟨_, _, he, ⟨box_cellT (h2.cells 6 rfl) 2 rfl, box_cellT (h2.cells 6 rfl) 3 rfl, box_cellT (h2.cells 6 rfl) 4 rfl, box_cellT (h2.cells 6 rfl) 5 rfl⟩, fun a m => ?_⟩
      rw [show (mN n).has.length = n by simp [mN]]
      by_cases hE : fitE 0 q q (pgI n k W0) = 0
      · rw [hE]
        exact .inr ⟨n, k, x, a, m, ad', _, _, cf, rfl, rfl, hx.2.2.1, hx.2.2.2.1, hx.2.2.2.2, hE, hi, rfl, h2⟩
      · exact HR.out _ _ _ _ _ hE h2.tail.tail.tail.tail.tail.tail.tail
    · exact (n_new_bad (cap := cap') (q := q) h gr (ms_new cf) hk.1 hk.2 hlW hi).mono fun e w' ⟨_, _, he, h2⟩ => ⟨_, 12, he, ⟨box_cellT (h2.cells 1 rfl) 2 rfl, box_cellT (h2.cells 1 rfl) 3 rfl, box_cellT (h2.cells 1 rfl) 4 rfl, box_cellT (h2.cells 1 rfl) 5 rfl⟩, fun a m => HR.out _ _ _ _ _ (by decide) h2.tail.tail⟩
  have HCC : Hid (∀ w1 P, Things W w1 (P :: (Blk w.heap.size (.cells #[.int .i64 n, .int .i64 k, .int .i64 q, .int .i64 id, .int .i64 se, .slice ad0 W0.length cap0] 26 (0, 0))) :: ts) → w1.cell? ⟨w.heap.size, 0, none⟩ = some (.int .i64 n) ∧ w1.cell? ⟨w.heap.size, 2, none⟩ = some (.int .i64 q) ∧ w1.cell? ⟨w.heap.size, 3, none⟩ = some (.int .i64 id) ∧ w1.cell? ⟨w.heap.size, 4, none⟩ = some (.int .i64 se) ∧ w1.cell? ⟨w.heap.size, 5, none⟩ = some (.slice ad0 W0.length cap0)) := fun w1 P h => ⟨box_cellT (h.cells 1 rfl) 0 rfl, box_cellT (h.cells 1 rfl) 2 rfl, box_cellT (h.cells 1 rfl) 3 rfl, box_cellT (h.cells 1 rfl) 4 rfl, box_cellT (h.cells 1 rfl) 5 rfl⟩
  unfold C18.cs
  simp only
  clear g gr hc hk hn cf hlW HR
  generalize W0.length = wl at *
  go_enter Tryz.func15, Tryz.ntmps15
  go_wp2_with fail
  refine (H1.out _ G.out).mono ?_
  rintro e w1 ⟨m, rfl, g1⟩
  have G1 := hid g1
  obtain ⟨c0, c2, c3, c4, c5⟩ := HCC.out _ _ g1
  clear g1 G H1
  go_wp2_with fail
  refine (H2.out _ _ G1.out).mono ?_
  rintro e w2 ⟨a, rfl, g2⟩
  have G2 := hid g2
  clear c0 c2 c3 c4 c5
  obtain ⟨c0, c2, c3, c4, c5⟩ := HCC.out _ _ g2
  clear c0 c2 c3 c4 c5 g2 G1 H2
  go_wp2_with fail
  have gd := G2.out.kept ((Fr.refl _ _).drew)
  obtain ⟨ad', cap', w3, hr, g3⟩ := HD.out _ _ _ gd
  rw [show w2.drew.heap.size = w2.heap.size from by simp] at hr
  have hrun : (Builtin.append_ #[24, 24] 24 #[.slice (some ⟨w2.heap.size, 0, none⟩) 0 0, .slice ad0 wl cap0]).run Tryz.prog (w2.alloc (.cells #[] 3)).drew = .ok (.slice ad' wl cap') w3 := hr
  have ge := gd.kept ((Fr.refl _ _).alloc (.cells #[] 3))
  obtain ⟨_, a2, a3, a4, a5⟩ := HCC.out _ _ gd
  obtain ⟨_, b2, b3, b4, b5⟩ := HCC.out _ _ ge
  obtain ⟨_, d2, d3, d4, d5⟩ := HCC.out _ _ g3
  have b2' : (w2.alloc (.cells #[] 3)).drew.cell? ⟨w.heap.size, 2, none⟩ = some (.int .i64 q) := b2
  have b3' : (w2.alloc (.cells #[] 3)).drew.cell? ⟨w.heap.size, 3, none⟩ = some (.int .i64 id) := b3
  have b4' : (w2.alloc (.cells #[] 3)).drew.cell? ⟨w.heap.size, 4, none⟩ = some (.int .i64 se) := b4
  have b5' : (w2.alloc (.cells #[] 3)).drew.cell? ⟨w.heap.size, 5, none⟩ = some (.slice ad0 wl cap0) := b5
  have HN := hid (H3.out _ _ _ _ cap' g3)
  clear hr gd ge g3 H3 HD b2 b3 b4 b5 HCC
  go_region_held3 (fun w' => w'.cell? ⟨w.heap.size, 2, none⟩ = some (.int .i64 q) ∧ w'.cell? ⟨w.heap.size, 3, none⟩ = some (.int .i64 id) ∧ w'.cell? ⟨w.heap.size, 4, none⟩ = some (.int .i64 se) ∧ w'.cell? ⟨w.heap.size, 5, none⟩ = some (.slice ad0 wl cap0)) (first | exact ⟨by assumption, by assumption, by assumption, by assumption⟩ | go_keep) (first | (refine app_arm rfl (.tmp 37) (.tmp 39) _ _ rfl rfl rfl hrun ?_) | (go_at_call 7; refine HN.out.mono ?_; rintro e w4 ⟨v, E, rfl, ⟨n2, n3, n4, n5⟩, hm⟩; have HM := hid hm; clear hm))
  all_goals
    go_wp2
    (try simp only [Exit.inBlock, Exit.then]); refine bodyPost_ret (tn_results4 rfl _ _ _) rfl ?_
    simp
    exact HM.out _ _
theorem made_any (g : Things W w ts) (gr : G17 W) {c : C18} (hc : CfgT W c) : Calls Tryz.prog 15 #[.agg c.cs] w fun e w' => MadeR W ts c e w' := by
  by_cases hcf : Cq.Cfg c.P c.K
  · obtain ⟨P, K, q, id, se, ad0, cap0, W0⟩ := c
    obtain ⟨n, rfl⟩ : ∃ n : Nat, P = n := ⟨P.toNat, by have := hcf.2.2.1; simp only at this; omega⟩
    obtain ⟨k, rfl⟩ : ∃ k : Nat, K = k := ⟨K.toNat, by have := hcf.1; simp only at this; omega⟩
    exact made_yes g gr hcf hc
  · exact made_no g hcf
end
end Go.Proofs.YtioplfbkfokkfaaGreatDoor

namespace Go.Proofs.YtioplfbkfokkfaaGreatDoor
open Go.RowKit
open An

def hX (t : Int) : Int := Ka.pkB t 0 7 1
def hS (t r : Int) : Int := Ka.pkB t 4096 r 2
def cA (t a : Int) : Ka.Ct := ⟨t, 2, [⟨0, 7, 1, a⟩]⟩
def cB (t r a : Int) : Ka.Ct := ⟨t, 3, [⟨0, 7, 1, a⟩, ⟨4096, r, 2, a⟩]⟩
abbrev T8 (t : Int) : Prop := 0 ≤ t ∧ t ≤ 7
abbrev R7 (r : Int) : Prop := 1 ≤ r ∧ r ≤ 7
section
variable {t r a q : Int}
theorem hX_is (h : T8 t) : hX t = t + 112 + 1048576 := by
  unfold hX
  rw [Ka.pkB_yes ⟨h, by omega, by omega, by omega⟩]
  omega
theorem hS_is (h : T8 t) (hr : R7 r) : hS t r = t + 16 * r + 524288 + 2097152 := by
  unfold hS
  rw [Ka.pkB_yes ⟨h, by omega, hr, by omega⟩]
  omega
theorem shares_gr (ha : 0 ≤ a) : Ka.grE ⟨t, 1, []⟩ a = 0 ∧ Ka.grV ⟨t, 1, []⟩ a = hX t ∧ Ka.grS ⟨t, 1, []⟩ a = cA t a := by
  have hc : (⟨t, 1, []⟩ : Ka.Ct).can 0 4096 := ⟨by show (0 : Int) < 4096; decide, by show (1 : Int) < 17592186044416; decide⟩
  have hn : ¬ a < 0 := by omega
  unfold Ka.grE Ka.grV Ka.grS
  rw [if_neg hn, if_neg hn, if_neg hn]
  unfold Ka.plE Ka.plV Ka.plS
  rw [if_pos hc, if_pos hc, if_pos hc]
  exact ⟨rfl, rfl, rfl⟩
theorem look_x (r : Int) : Ka.look (cB t r a) (hX t) = some ⟨0, 7, 1, a⟩ := by
  unfold Ka.look cB
  rw [List.find?_cons_of_pos]
  show (Ka.pkB t 0 7 1 == hX t) = true
  exact beq_self_eq_true _
theorem look_a : Ka.look (cA t a) (hX t) = some ⟨0, 7, 1, a⟩ := by
  unfold Ka.look cA
  rw [List.find?_cons_of_pos]
  show (Ka.pkB t 0 7 1 == hX t) = true
  exact beq_self_eq_true _
theorem look_s (h : T8 t) (hr : R7 r) : Ka.look (cB t r a) (hS t r) = some ⟨4096, r, 2, a⟩ := by
  unfold Ka.look cB
  rw [List.find?_cons_of_neg, List.find?_cons_of_pos]
  · show (Ka.pkB t 4096 r 2 == hS t r) = true
    exact beq_self_eq_true _
  · show ¬ (Ka.pkB t 0 7 1 == hS t r) = true
    have h1 : Ka.pkB t 0 7 1 = t + 112 + 1048576 := hX_is h
    rw [h1, hS_is h hr]
    simp
    omega
theorem sub7 : Ka.sub 7 r = true := by
  unfold Ka.sub
  rw [decide_eq_true_eq]
  exact ⟨fun _ => by decide, fun _ => by decide, fun _ => by decide⟩
theorem sub0 : Ka.sub r 0 = true := by
  unfold Ka.sub
  rw [decide_eq_true_eq]
  exact ⟨fun h => by omega, fun h => by omega, fun h => by omega⟩
theorem shares_re (hr : R7 r) : Ka.reE (cA t a) (hX t) r = 0 ∧ Ka.reV (cA t a) (hX t) r = hS t r ∧ Ka.reS (cA t a) (hX t) r = cB t r a := by
  have hc : (cA t a).can 4096 4160 := ⟨by show (4096 : Int) < 4160; decide, by show (2 : Int) < 17592186044416; decide⟩
  unfold Ka.reE Ka.reV Ka.reS
  rw [look_a]
  simp only
  rw [if_pos hr, if_pos hr, if_pos hr, if_pos sub7, if_pos sub7, if_pos sub7]
  unfold Ka.plE Ka.plV Ka.plS
  rw [if_pos hc, if_pos hc, if_pos hc]
  exact ⟨rfl, rfl, rfl⟩
theorem shares_re_no (hr : ¬ R7 r) : Ka.reE (cA t a) (hX t) r = 2 ∧ Ka.reV (cA t a) (hX t) r = 0 ∧ Ka.reS (cA t a) (hX t) r = cA t a := by
  unfold Ka.reE Ka.reV Ka.reS
  rw [look_a]
  simp only
  rw [if_neg hr, if_neg hr, if_neg hr]
  exact ⟨rfl, rfl, rfl⟩
theorem shares_fx (hq : 0 ≤ q ∧ q ≤ 7) : Ka.fiE (cB t r a) (hX t) q = 0 ∧ Ka.fiV (cB t r a) (hX t) q = a := by
  have ok : Ka.fiOk ⟨0, 7, 1, a⟩ q := ⟨hq, sub7⟩
  unfold Ka.fiE Ka.fiV
  rw [look_x]
  simp only
  rw [if_pos ok, if_pos ok]
  exact ⟨rfl, rfl⟩
theorem shares_fs (h : T8 t) (hr : R7 r) (hq : 0 ≤ q ∧ q ≤ 7) (hs : Ka.sub r q = true) : Ka.fiE (cB t r a) (hS t r) q = 0 ∧ Ka.fiV (cB t r a) (hS t r) q = a := by
  have ok : Ka.fiOk ⟨4096, r, 2, a⟩ q := ⟨hq, hs⟩
  unfold Ka.fiE Ka.fiV
  rw [look_s h hr]
  simp only
  rw [if_pos ok, if_pos ok]
  exact ⟨rfl, rfl⟩
theorem shares_fs_no (h : T8 t) (hr : R7 r) (hs : Ka.sub r q = false) : Ka.fiE (cB t r a) (hS t r) q = 5 := by
  have ok : ¬ Ka.fiOk ⟨4096, r, 2, a⟩ q := fun e => by
    have e2 : Ka.sub r q = true := e.2
    rw [hs] at e2
    exact absurd e2 (by decide)
  unfold Ka.fiE
  rw [look_s h hr]
  simp only
  rw [if_neg ok]
theorem shares_gone (b : Int) (q : Int) : Ka.fiE (Ka.rvS (cB t r a) a) b q = 5 := by
  have e : (Ka.rvS (cB t r a) a).L = [] := by
    show ([⟨0, 7, 1, a⟩, ⟨4096, r, 2, a⟩] : List Ka.Sl).filter (fun x => decide (x.a ≠ a)) = []
    simp
  unfold Ka.fiE Ka.look
  rw [e]
  rfl
end
structure QM (k : Nat) (H : Hp) (c s j : Nat) (D : List UInt8) (b : Nat) (M : Ms) : Prop where
  hc : Hc k M H
  ss : M.ss.length ≤ b
  dt : (List.range (unitI c).toNat).map (fun i : Nat => lb H.T M.bs (adI c s j + i)) = D
section
variable {k : Nat} {H : Hp} {c s j b : Nat} {D : List UInt8} {M : Ms}
theorem QM.notes (h : QM k H c s j D b M) {ss' : List Sp} {b' : Nat} (hs : ss'.length ≤ b') (hb : b' ≤ 890000) : QM k H c s j D b' ⟨M.has, M.bs, ss'⟩ := ⟨h.hc.notes (by omega), hs, h.dt⟩
theorem QM.wrote (h : QM k H c s j D b M) (hb : HadB H.L c s j) {f : Nat} {ds : List UInt8} (hf : f + ds.length ≤ (unitI c).toNat) {ss' : List Sp} {b' : Nat} (hs : ss'.length ≤ b') (hb' : b' ≤ 890000) : QM k H c s j (patch D ds f) b' ⟨M.has, vwB H.T M.bs (adI c s j + f) ds, ss'⟩ :=
  ⟨h.hc.wrote hb hf (by omega), hs, by rw [← h.dt]; exact writePart_here h.hc.ok h.hc.ms hb hf⟩
end
structure Sh (k : Nat) (t r n : Int) (c s j : Nat) (H : Hp) (D : List UInt8) (b : Nat) (S : TnS) : Prop where
  eH : S.H = H
  eC : S.c = cB t r (adI c s j)
  eF : ∀ z, S.f z = if z = adI c s j then some (n, unitI c) else none
  eQ : Plain S.s
  eB : S.s.cb = unitI c
  m : QM k H c s j D b S.M
  had : HadB H.L c s j
  n1 : 1 ≤ n
  n2 : n ≤ unitI c
  t8 : T8 t
  r7 : R7 r
section
variable {W w : World} {x : Tp} {S : TnS} {ts : List (World → (Nat → Prop) → Prop)} {t r n : Int} {k c s j b : Nat} {H : Hp} {D : List UInt8}
theorem Sh.place (h : Sh k t r n c s j H D b S) : PlT c s j ∧ c ≤ 23 ∧ 131072 ≤ adI c s j ∧ adI c s j + unitI c ≤ 3276800 ∧ 16 ≤ unitI c ∧ unitI c ≤ 8192 := by
  obtain ⟨p, c2, _⟩ := h.had.there h.m.hc.ok
  have hi := p.inside
  have hu := unitI_range c (by omega) (by omega)
  exact ⟨p, c2, by omega, by omega, hu.1, hu.2⟩
theorem Sh.hb (h : Sh k t r n c s j H D b S) : (0 ≤ hX t ∧ hX t ≤ 18446744073709551615) ∧ 0 ≤ hS t r ∧ hS t r ≤ 18446744073709551615 := by
  have h1 := h.t8
  have h2 := h.r7
  rw [hX_is h1, hS_is h1 h2]
  omega
theorem Sh.rt (h : Sh k t r n c s j H D b S) : Rt (unitI c) 0 := by
  obtain ⟨_, _, _, _, h1, h2⟩ := h.place
  unfold Rt
  omega
theorem Sh.obj (h : Sh k t r n c s j H D b S) : S.f (adI c s j) = some (n, unitI c) := by rw [h.eF, if_pos rfl]
structure ShA (k : Nat) (t n : Int) (c s j : Nat) (H : Hp) (D : List UInt8) (b : Nat) (S : TnS) : Prop where
  eH : S.H = H
  eC : S.c = cA t (adI c s j)
  eF : ∀ z, S.f z = if z = adI c s j then some (n, unitI c) else none
  eQ : Plain S.s
  eB : S.s.cb = unitI c
  m : QM k H c s j D b S.M
  had : HadB H.L c s j
  n1 : 1 ≤ n
  n2 : n ≤ unitI c
  t8 : T8 t
theorem fit_may {q p : Int} (h : fitE 0 q q p = 0) : May q := by
  unfold fitE at h
  split at h
  · omega
  · rename_i h1
    unfold May
    omega
theorem sh_malloc {p : Nat} {l : List Int} {q : Int} (g : Things W w (tnl x (newT (mN p) l t 1 q) ts)) (gr : G17 W) (cf : Cq.Cfg p x.k) (hl : l.length ≤ 17592186044416) (hq : May q) (ht : T8 t) (hn : I64 n) : Calls Tryz.prog 16 #[.pointer (some ⟨x.T, 0, none⟩), .int .i64 n] w fun e w' => (∃ E cg, E ≠ 0 ∧ e = .returned (ans E 0 0 0 ⟨#[]⟩ cg) ∧ Nw W w') ∨ ∃ (c s j : Nat) (H : Hp) (D : List UInt8) (S' : TnS), ShA x.k t n c s j H D 2 S' ∧ e = .returned (ans 0 (hX t) (adI c s j) 0 ⟨#[]⟩ (unitI c)) ∧ Things W w' (tnl x S' ts) := by
  have hc : Hc x.k (newT (mN p) l t 1 q).M (newT (mN p) l t 1 q).H := hc_new cf hl
  obtain ⟨hp, hlb⟩ := Plain.new hq
  by_cases hE : tkE x.k (newT (mN p) l t 1 q) n = 0
  · obtain ⟨c, s, j, M', H', h1, gv, h3, h4, h5, _, h7⟩ := tk_ok (S := newT (mN p) l t 1 q) hp hc hE
    obtain ⟨t1, t2, t3⟩ := took_ok (S := newT (mN p) l t 1 q) hp hc h1 (by show (0 : Nat) ≤ _; omega) h5 (by unfold chargeI; split <;> first | omega | (have := unitI_range (ofI n) (by omega) (by rw [gv.kd]; have := ((hM_ways (fun _ => id) hc.ok hc.ms n)); have hb := (gv.had c s j).2 (.inr ⟨rfl, rfl, rfl⟩); have := (hb.there (by have := hc.malloc n (by show (0 : Nat) ≤ _; omega); rw [h1] at this; exact this.1.ok)).2.1; omega); omega))
    have hb : HadB H'.L c s j := (gv.had c s j).2 (.inr ⟨rfl, rfl, rfl⟩)
    obtain ⟨pl, c2, _⟩ := hb.there t2.ok
    have hi := pl.inside
    have hu := unitI_range c (by omega) (by omega)
    have hn1 : 1 ≤ n ∧ n ≤ 8192 := by
      by_cases h : n < 1 ∨ 8192 < n
      · have := (ofI_none n).2 h; omega
      · omega
    have hch : chargeI n = unitI c := by rw [chargeI_some n hn1.1 hn1.2, gv.kd]
    have hfits : n ≤ unitI c := by rw [← gv.kd]; exact ofI_fits n hn1.1 hn1.2
    have hr := n_malloc_ok (n := n) g gr hc hn hE (by rw [h3]; omega) (by show (0 : Nat) < maxLen; unfold maxLen; omega)
    obtain ⟨g1, g2, g3⟩ := shares_gr (t := t) (a := adI c s j) (by omega)
    rw [h4, h3, hch] at hr
    rw [show (TnS.took (newT (mN p) l t 1 q) M' H' (unitI c)).c = ⟨t, 1, []⟩ from rfl, g1, g2] at hr
    have ecb : (TnS.took (newT (mN p) l t 1 q) M' H' (unitI c)).s.cb = unitI c := by show (0 : Int) + unitI c = _; omega
    rw [ecb] at hr
    refine hr.mono fun e w' ⟨he, g'⟩ => .inr ⟨c, s, j, H', _, owS (TnS.took (newT (mN p) l t 1 q) M' H' (unitI c)) (adI c s j) n, ⟨rfl, g3, fun z => ?_, ?_, ecb, ⟨t2, ?_, rfl⟩, hb, hn1.1, hfits, ht⟩, he, g'⟩
    · show (if z = adI c s j then some (n, chargeI n) else none) = _
      rw [hch]
    · rw [hch] at t1
      exact t1
    · exact t3
  · obtain ⟨e1, _⟩ := tk_no (S := newT (mN p) l t 1 q) hp hc hE
    exact (n_malloc_no (n := n) g gr hc hn hE).mono fun e w' ⟨he, g'⟩ => .inl ⟨_, _, hE, he, g'.nw⟩
theorem sh_restrict (g : Things W w (tnl x S ts)) (gr : G17 W) (h : ShA x.k t n c s j H D b S) (hr : R7 r) : Calls Tryz.prog 17 #[.pointer (some ⟨x.T, 0, none⟩), .int .u64 (hX t), .int .i64 r] w fun e w' => ∃ S', Sh x.k t r n c s j H D b S' ∧ e = .returned (ans 0 (hS t r) 0 0 ⟨#[]⟩ (unitI c)) ∧ Things W w' (tnl x S' ts) := by
  have h0 := hX_is h.t8
  have t8 := h.t8
  obtain ⟨r1, r2, r3⟩ := shares_re (t := t) (a := adI c s j) hr
  have hh := n_restrict (b := hX t) g gr (by omega) (by omega) r
  rw [h.eC, r1, r2, r3, h.eB] at hh
  exact hh.mono fun e w' ⟨he, g'⟩ => ⟨{ S with c := cB t r (adI c s j) }, ⟨h.eH, rfl, h.eF, h.eQ, h.eB, h.m, h.had, h.n1, h.n2, h.t8, hr⟩, he, g'⟩
theorem sh_restrict_no (g : Things W w (tnl x S ts)) (gr : G17 W) (h : ShA x.k t n c s j H D b S) (hr : ¬ R7 r) : Calls Tryz.prog 17 #[.pointer (some ⟨x.T, 0, none⟩), .int .u64 (hX t), .int .i64 r] w fun e w' => e = .returned (ans 2 0 0 0 ⟨#[]⟩ (unitI c)) ∧ Nw W w' := by
  have h0 := hX_is h.t8
  have t8 := h.t8
  obtain ⟨r1, r2, r3⟩ := shares_re_no (t := t) (a := adI c s j) hr
  have hh := n_restrict (b := hX t) g gr (by omega) (by omega) r
  rw [h.eC, r1, r2, r3, h.eB] at hh
  exact hh.mono fun e w' ⟨he, g'⟩ => ⟨he, g'.nw⟩
theorem sh_usable_x (g : Things W w (tnl x S ts)) (h : Sh x.k t r n c s j H D b S) : Calls Tryz.prog 18 #[.pointer (some ⟨x.T, 0, none⟩), .int .u64 (hX t)] w fun e w' => e = .returned (ans 0 0 0 (unitI c) ⟨#[]⟩ (unitI c)) ∧ Things W w' (tnl x S ts) := by
  obtain ⟨p, c2, a1, a2, u1, u2⟩ := h.place
  have hb := h.hb
  obtain ⟨f1, f2⟩ := shares_fx (t := t) (r := r) (a := adI c s j) (q := 0) (by omega)
  have := n_usable_ok (b := hX t) g hb.1.1 hb.1.2 (by rw [h.eC]; exact f1) (by rw [h.eC, f2]; omega) (y := (n, unitI c)) (by rw [h.eC, f2]; exact h.obj) h.rt
  rw [h.eB] at this
  exact this
theorem sh_usable_s (g : Things W w (tnl x S ts)) (h : Sh x.k t r n c s j H D b S) : Calls Tryz.prog 18 #[.pointer (some ⟨x.T, 0, none⟩), .int .u64 (hS t r)] w fun e w' => e = .returned (ans 0 0 0 (unitI c) ⟨#[]⟩ (unitI c)) ∧ Things W w' (tnl x S ts) := by
  obtain ⟨p, c2, a1, a2, u1, u2⟩ := h.place
  have hb := h.hb
  obtain ⟨f1, f2⟩ := shares_fs (a := adI c s j) (q := 0) h.t8 h.r7 (by omega) sub0
  have := n_usable_ok (b := hS t r) g hb.2.1 hb.2.2 (by rw [h.eC]; exact f1) (by rw [h.eC, f2]; omega) (y := (n, unitI c)) (by rw [h.eC, f2]; exact h.obj) h.rt
  rw [h.eB] at this
  exact this
theorem sh_read (g : Things W w (tnl x S ts)) (h : Sh x.k t r n c s j H D b S) (hb : b ≤ 800000) {hh : Int} (h0 : 0 ≤ hh ∧ hh ≤ 18446744073709551615) (hf : Ka.fiE (cB t r (adI c s j)) hh 1 = 0 ∧ Ka.fiV (cB t r (adI c s j)) hh 1 = adI c s j) : Calls Tryz.prog 20 #[.pointer (some ⟨x.T, 0, none⟩), .int .u64 hh, .int .i64 0, .int .i64 n] w fun e w' => ∃ S', Sh x.k t r n c s j H D (b + 34) S' ∧ e = .returned (ans 0 0 0 0 ⟨(D.take n.toNat).toArray⟩ (unitI c)) ∧ Things W w' (tnl x S' ts) := by
  obtain ⟨p, c2, a1, a2, u1, u2⟩ := h.place
  have n1 := h.n1
  have n2 := h.n2
  have hH := h.eH
  obtain ⟨v1, v2⟩ := h.had.ans (f := 0) (m := n.toNat) h.m.hc.ok h.m.hc.ms (by omega)
  rw [h.m.dt, List.drop_zero, show ((n.toNat : Nat) : Int) = n by omega, show adI c s j + ((0 : Nat) : Int) = adI c s j by omega] at v2
  rw [show ((n.toNat : Nat) : Int) = n by omega, show adI c s j + ((0 : Nat) : Int) = adI c s j by omega] at v1
  have hr := n_read_ok (fr := 0) (av := adI c s j) (n := n) g (by rw [hH]; exact h.m.hc) (b := hh) (fun w ts g => by
    have h1 := n_reach (r := 1) (fr := 0) (n := n) g h0.1 h0.2 (by omega) (by omega) (by rw [h.eC]; exact hf.1) (by rw [h.eC, hf.2]; omega) (y := (n, unitI c)) (by rw [h.eC, hf.2]; exact h.obj) (by simp only; omega)
    rw [h.eC, hf.2, if_pos (show Inn n 0 n from ⟨by omega, by omega, by omega⟩), if_pos (show Inn n 0 n from ⟨by omega, by omega, by omega⟩), Int.add_zero] at h1
    exact h1) (by omega) (by omega) (by omega)
  rw [hH, v1, v2, h.eB] at hr
  refine hr.mono fun e w' ⟨he, g'⟩ => ⟨_, ?_, he, g'⟩
  have hl := (hc_few h.m.hc.ok.tp.tb S.M.bs.length S.M.ss (adI c s j) (n := n) (by omega)).1
  exact ⟨rfl, h.eC, h.eF, h.eQ, h.eB, h.m.notes (by have := h.m.ss; omega) (by omega), h.had, n1, n2, h.t8, h.r7⟩
theorem sh_read_no (g : Things W w (tnl x S ts)) (h : Sh x.k t r n c s j H D b S) (hs : Ka.sub r 1 = false) : Calls Tryz.prog 20 #[.pointer (some ⟨x.T, 0, none⟩), .int .u64 (hS t r), .int .i64 0, .int .i64 n] w fun e w' => ∃ S', Sh x.k t r n c s j H D b S' ∧ e = .returned (ans 5 0 0 0 ⟨#[]⟩ (unitI c)) ∧ Things W w' (tnl x S' ts) := by
  have hb := h.hb
  have hf := shares_fs_no (a := adI c s j) h.t8 h.r7 hs
  have hr := n_read_no (b := hS t r) (fr := 0) (av := 0) (er := 5) (n := n) g (fun w ts g => by
    have h1 := n_reach_no (r := 1) g hb.2.1 hb.2.2 (by omega) 0 n (by rw [h.eC, hf]; decide)
    rw [h.eC, hf] at h1
    exact h1) (by decide)
  rw [h.eB] at hr
  exact hr.mono fun e w' ⟨he, g'⟩ => ⟨S, h, he, g'⟩
theorem sh_write (g : Things W w (tnl x S ts)) (h : Sh x.k t r n c s j H D b S) (hb : b ≤ 800000) (hs : Ka.sub r 2 = true) {d : ByteArray} (hd : d.size ≤ n) : Calls Tryz.prog 19 #[.pointer (some ⟨x.T, 0, none⟩), .int .u64 (hS t r), .int .i64 0, .string d] w fun e w' => ∃ S', Sh x.k t r n c s j H (patch D d.data.toList 0) (b + 34) S' ∧ e = .returned (ans 0 0 0 0 ⟨#[]⟩ (unitI c)) ∧ Things W w' (tnl x S' ts) := by
  obtain ⟨p, c2, a1, a2, u1, u2⟩ := h.place
  have n1 := h.n1
  have n2 := h.n2
  have hH := h.eH
  have hbb := h.hb
  have hdl : d.data.toList.length = d.size := by rw [Array.length_toList]; rfl
  obtain ⟨f1, f2⟩ := shares_fs (a := adI c s j) (q := 2) h.t8 h.r7 (by omega) hs
  obtain ⟨v1, _⟩ := h.had.ans (f := 0) (m := d.size) h.m.hc.ok h.m.hc.ms (by omega)
  rw [show adI c s j + ((0 : Nat) : Int) = adI c s j by omega] at v1
  have hr := n_write_ok (fr := 0) (av := adI c s j) (d := d) g (by rw [hH]; exact h.m.hc) (b := hS t r) (fun w ts g => by
    have h1 := n_reach (r := 2) (fr := 0) (n := d.size) g hbb.2.1 hbb.2.2 (by omega) (by omega) (by rw [h.eC]; exact f1) (by rw [h.eC, f2]; omega) (y := (n, unitI c)) (by rw [h.eC, f2]; exact h.obj) (by simp only; omega)
    rw [h.eC, f2, if_pos (show Inn n 0 d.size from ⟨by omega, by omega, by omega⟩), if_pos (show Inn n 0 d.size from ⟨by omega, by omega, by omega⟩), Int.add_zero] at h1
    exact h1) (by omega) (by omega)
  rw [hH, v1, h.eB] at hr
  refine hr.mono fun e w' ⟨he, g'⟩ => ⟨_, ?_, he, g'⟩
  have hl := (hc_few h.m.hc.ok.tp.tb S.M.bs.length S.M.ss (adI c s j) (n := d.size) (by omega)).2
  have hw := h.m.wrote h.had (f := 0) (ds := d.data.toList) (by omega) (ss' := vwT H.T S.M.bs.length S.M.ss (adI c s j) d.size) (b' := b + 34) (by have := h.m.ss; omega) (by omega)
  rw [show adI c s j + ((0 : Nat) : Int) = adI c s j by omega] at hw
  exact ⟨rfl, h.eC, h.eF, h.eQ, h.eB, hw, h.had, n1, n2, h.t8, h.r7⟩
theorem sh_write_far (g : Things W w (tnl x S ts)) (h : Sh x.k t r n c s j H D b S) (hs : Ka.sub r 2 = true) {d : ByteArray} (hd : n < d.size) : Calls Tryz.prog 19 #[.pointer (some ⟨x.T, 0, none⟩), .int .u64 (hS t r), .int .i64 0, .string d] w fun e w' => ∃ S', Sh x.k t r n c s j H D b S' ∧ e = .returned (ans 4 0 0 0 ⟨#[]⟩ (unitI c)) ∧ Things W w' (tnl x S' ts) := by
  obtain ⟨p, c2, a1, a2, u1, u2⟩ := h.place
  have n1 := h.n1
  have n2 := h.n2
  have hbb := h.hb
  obtain ⟨f1, f2⟩ := shares_fs (a := adI c s j) (q := 2) h.t8 h.r7 (by omega) hs
  have hr := n_write_no (fr := 0) (av := 0) (er := 4) (d := d) (b := hS t r) g (fun w ts g => by
    have h1 := n_reach (r := 2) (fr := 0) (n := d.size) g hbb.2.1 hbb.2.2 (by omega) (by omega) (by rw [h.eC]; exact f1) (by rw [h.eC, f2]; omega) (y := (n, unitI c)) (by rw [h.eC, f2]; exact h.obj) (by simp only; omega)
    rw [if_neg (show ¬ Inn n 0 d.size from fun e => by have := e.2.2; omega), if_neg (show ¬ Inn n 0 d.size from fun e => by have := e.2.2; omega)] at h1
    exact h1) (by decide)
  rw [h.eB] at hr
  exact hr.mono fun e w' ⟨he, g'⟩ => ⟨S, h, he, g'⟩
theorem sh_write_no (g : Things W w (tnl x S ts)) (h : Sh x.k t r n c s j H D b S) (hs : Ka.sub r 2 = false) (d : ByteArray) : Calls Tryz.prog 19 #[.pointer (some ⟨x.T, 0, none⟩), .int .u64 (hS t r), .int .i64 0, .string d] w fun e w' => ∃ S', Sh x.k t r n c s j H D b S' ∧ e = .returned (ans 5 0 0 0 ⟨#[]⟩ (unitI c)) ∧ Things W w' (tnl x S' ts) := by
  have hb := h.hb
  have hf := shares_fs_no (a := adI c s j) h.t8 h.r7 hs
  have hr := n_write_no (b := hS t r) (fr := 0) (av := 0) (er := 5) (d := d) g (fun w ts g => by
    have h1 := n_reach_no (r := 2) g hb.2.1 hb.2.2 (by omega) 0 d.size (by rw [h.eC, hf]; decide)
    rw [h.eC, hf] at h1
    exact h1) (by decide)
  rw [h.eB] at hr
  exact hr.mono fun e w' ⟨he, g'⟩ => ⟨S, h, he, g'⟩
structure Fd (S : TnS) : Prop where
  eC : ∀ b q, Ka.fiE S.c b q = 5
  eB : S.s.cb = 0
theorem sh_free (g : Things W w (tnl x S ts)) (gr : G17 W) (h : Sh x.k t r n c s j H D b S) {hh : Int} (h0 : 0 ≤ hh ∧ hh ≤ 18446744073709551615) (hf : Ka.fiE (cB t r (adI c s j)) hh 4 = 0 ∧ Ka.fiV (cB t r (adI c s j)) hh 4 = adI c s j) : Calls Tryz.prog 21 #[.pointer (some ⟨x.T, 0, none⟩), .int .u64 hh] w fun e w' => ∃ S', Fd S' ∧ e = .returned (ans 0 0 0 0 ⟨#[]⟩ 0) ∧ Things W w' (tnl x S' ts) := by
  obtain ⟨p, c2, a1, a2, u1, u2⟩ := h.place
  have hH := h.eH
  have hr := n_free_ok (b := hh) g gr (by rw [hH]; exact h.m.hc) h0.1 h0.2 (by rw [h.eC]; exact hf.1) (kd := c) (s := s) (i := j) (E := 0) (by rw [h.eC, hf.2]; exact .inl ⟨rfl, p, rfl⟩) (by rw [h.eC, hf.2]; omega) (y := (n, unitI c)) (by rw [h.eC, hf.2]; exact h.obj) h.rt
  rw [h.eC, hf.2] at hr
  have e1 : (rlS S (adI c s j) c s j 0 (unitI c)).s.cb = 0 := by
    show (Qt.refS S.s (unitI c) 0).cb = 0
    rw [h.eQ.ref (by rw [h.eB]; omega)]
    show S.s.cb + -(unitI c) = 0
    rw [h.eB]; omega
  rw [e1] at hr
  refine hr.mono fun e w' ⟨he, g'⟩ => ⟨_, ⟨fun b q => ?_, e1⟩, he, g'⟩
  show Ka.fiE (Ka.rvS S.c (adI c s j)) b q = 5
  rw [h.eC]
  exact shares_gone b q
theorem sh_free_no (g : Things W w (tnl x S ts)) (h : Sh x.k t r n c s j H D b S) (hs : Ka.sub r 4 = false) : Calls Tryz.prog 21 #[.pointer (some ⟨x.T, 0, none⟩), .int .u64 (hS t r)] w fun e w' => e = .returned (ans 5 0 0 0 ⟨#[]⟩ (unitI c)) ∧ Things W w' (tnl x S ts) := by
  have hb := h.hb
  have hf := shares_fs_no (a := adI c s j) h.t8 h.r7 hs
  have hr := n_free_no (b := hS t r) g hb.2.1 hb.2.2 (by rw [h.eC, hf]; decide)
  rw [h.eC, hf, h.eB] at hr
  exact hr
theorem fd_free (g : Things W w (tnl x S ts)) (h : Fd S) {hh : Int} (h0 : 0 ≤ hh ∧ hh ≤ 18446744073709551615) : Calls Tryz.prog 21 #[.pointer (some ⟨x.T, 0, none⟩), .int .u64 hh] w fun e w' => e = .returned (ans 5 0 0 0 ⟨#[]⟩ 0) ∧ Things W w' (tnl x S ts) := by
  have hr := n_free_no (b := hh) g h0.1 h0.2 (by rw [h.eC]; decide)
  rw [h.eC, h.eB] at hr
  exact hr
theorem fd_usable (g : Things W w (tnl x S ts)) (h : Fd S) {hh : Int} (h0 : 0 ≤ hh ∧ hh ≤ 18446744073709551615) : Calls Tryz.prog 18 #[.pointer (some ⟨x.T, 0, none⟩), .int .u64 hh] w fun e w' => e = .returned (ans 5 0 0 0 ⟨#[]⟩ 0) ∧ Things W w' (tnl x S ts) := by
  have hr := n_usable_no (b := hh) g h0.1 h0.2 (by rw [h.eC]; decide)
  rw [h.eC, h.eB] at hr
  exact hr
end
end Go.Proofs.YtioplfbkfokkfaaGreatDoor
