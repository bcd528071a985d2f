/-
  The document's table of handles: what each of its calls answers and leaves.
-/
import Derived.Test.YtcleheapfgapaaaDoorCaMem
namespace Go.Proofs.YtcleheapfgapaaaDoor
open Go.RowKit

theorem e_new {t n : Int} (h : (0 ≤ t ∧ t ≤ 7) ∧ 1 ≤ n ∧ n ≤ 17592186044416) (w : World) : Calls Tryd.prog 10 #[.int .i64 t, .int .i64 n] w fun e w' => e = .returned (.tuple #[.pointer (some ⟨w.heap.size, 0, none⟩), .int .i64 0]) ∧ Rc w' w.heap.size w.heap.size (.slice none 0 0) (newC t n) ∧ Fr (fun _ => False) w w' := by
  have HR : Hid (Rc (w.alloc (.cells #[.int .i64 t, .int .i64 n, .slice none 0 0] 46)) w.heap.size w.heap.size (.slice none 0 0) (newC t n)) := ⟨heap_alloc_new _ _, World.ownsRow_nil _ _ _ _, by simp [Value.ownBlock], newC_ok h, by simp [newC], Nat.le_refl _⟩
  obtain ⟨⟨h1, h2⟩, h3, h4⟩ := h
  go_enter Tryd.func10, Tryd.ntmps10
  go_wp2
  go_ret2
  exact ⟨by simp, HR.out, (Fr.refl _ _).alloc _⟩
theorem e_new_no {t n : Int} (h : ¬ ((0 ≤ t ∧ t ≤ 7) ∧ 1 ≤ n ∧ n ≤ 17592186044416)) (w : World) : Calls Tryd.prog 10 #[.int .i64 t, .int .i64 n] w fun e w' => e = .returned (.tuple #[.pointer none, .int .i64 12]) ∧ w' = w := by
  by_cases h1 : 0 ≤ t
  · by_cases h2 : t ≤ 7
    · by_cases h3 : 1 ≤ n
      · have h4 : 17592186044416 < n := by omega
        clear h
        go_enter Tryd.func10, Tryd.ntmps10
        go_wp2
        go_ret2
        exact ⟨by simp, rfl⟩
      · clear h
        go_enter Tryd.func10, Tryd.ntmps10
        go_wp2
        go_ret2
        exact ⟨by simp, rfl⟩
    · clear h
      go_enter Tryd.func10, Tryd.ntmps10
      go_wp2
      go_ret2
      exact ⟨by simp, rfl⟩
  · clear h
    go_enter Tryd.func10, Tryd.ntmps10
    go_wp2
    go_ret2
    exact ⟨by simp, rfl⟩
/-- One bit of some rights is missing in others. -/
def lacks (p q b : Int) : Bool := decide (q / b % 2 = 1) && decide (p / b % 2 = 0)
theorem sub_lacks (p q : Int) : sub p q = (!lacks p q 1 && !lacks p q 2 && !lacks p q 4) := by
  unfold sub lacks
  rw [Bool.eq_iff_iff]
  simp
  omega
theorem e_has (p q : Int) (hp : 0 ≤ p ∧ p ≤ 7) (hq : 0 ≤ q ∧ q ≤ 7) (w : World) : Calls Tryd.prog 31 #[.int .i64 p, .int .i64 q] w fun e w' => e = .returned (.bool (sub p q)) ∧ w' = w := by
  have HS := hid (sub_lacks p q)
  go_enter Tryd.func31, Tryd.ntmps31
  go_wp2
  go_loopw [5] (fun b wr => ∃ j : Nat, j ≤ 3 ∧ b = .int .i64 (2 ^ j : Nat) ∧ wr = w ∧ ∀ i, i < j → lacks p q (2 ^ i : Nat) = false) (fun b _ => 8 - (intOf b).toNat)
  case atStart => exact ⟨0, by omega, rfl, rfl, fun i hi => by omega⟩
  case round =>
    obtain ⟨j, hj, rfl, hwr, hno⟩ := hrel
    obtain rfl := hwr.symm
    have HN := hid hno
    clear hwr hno
    by_cases hlt : j < 3
    · obtain ⟨b, hb, hb1⟩ : ∃ b : Int, ((2 ^ j : Nat) : Int) = b ∧ ((b = 1 ∧ j = 0) ∨ (b = 2 ∧ j = 1) ∨ (b = 4 ∧ j = 2)) := by
        refine ⟨_, rfl, ?_⟩
        match j, hlt with
        | 0, _ => exact .inl ⟨rfl, rfl⟩
        | 1, _ => exact .inr (.inl ⟨rfl, rfl⟩)
        | 2, _ => exact .inr (.inr ⟨rfl, rfl⟩)
      have hb2 : ((2 ^ (j + 1) : Nat) : Int) = 2 * b := by rw [Nat.pow_succ, ← hb]; simp; omega
      have hz : (b == 0) = false := by simp; omega
      have hbb : 1 ≤ b ∧ b ≤ 4 := by omega
      have d1 : Int.tdiv q b = q / b := Int.tdiv_eq_ediv_of_nonneg hq.1
      have d2 : Int.tdiv p b = p / b := Int.tdiv_eq_ediv_of_nonneg hp.1
      have r1 : 0 ≤ q / b ∧ q / b ≤ 7 := by rcases hb1 with ⟨rfl, _⟩ | ⟨rfl, _⟩ | ⟨rfl, _⟩ <;> omega
      have r2 : 0 ≤ p / b ∧ p / b ≤ 7 := by rcases hb1 with ⟨rfl, _⟩ | ⟨rfl, _⟩ | ⟨rfl, _⟩ <;> omega
      have m1 : Int.tmod (q / b) 2 = q / b % 2 := Int.tmod_eq_emod_of_nonneg r1.1
      have m2 : Int.tmod (p / b) 2 = p / b % 2 := Int.tmod_eq_emod_of_nonneg r2.1
      have w1 : IntKind.i64.wrap (q / b) = q / b := by rw [IntKind.wrap_i64]; omega
      have w2 : IntKind.i64.wrap (p / b) = p / b := by rw [IntKind.wrap_i64]; omega
      have HLK : Hid (lacks p q b = (decide (q / b % 2 = 1) && decide (p / b % 2 = 0))) := rfl
      have HB : Hid (((2 ^ j : Nat) : Int) = b ∧ ((2 ^ (j + 1) : Nat) : Int) = 2 * b) := ⟨hb, hb2⟩
      have HS3 : Hid (lacks p q b = true → sub p q = false) := fun h => by
        rw [HS.out]
        rcases hb1 with ⟨rfl, _⟩ | ⟨rfl, _⟩ | ⟨rfl, _⟩ <;> simp [h]
      rw [hb]
      clear hb hb2 hb1 HS
      generalize q / b = qb at *
      generalize p / b = pb at *
      have e1 : qb % 2 = 0 ∨ qb % 2 = 1 := by omega
      have e2 : pb % 2 = 0 ∨ pb % 2 = 1 := by omega
      have w3 : IntKind.i64.wrap (qb % 2) = qb % 2 := by rw [IntKind.wrap_i64]; omega
      have w4 : IntKind.i64.wrap (pb % 2) = pb % 2 := by rw [IntKind.wrap_i64]; omega
      generalize qb % 2 = X at *
      generalize pb % 2 = Y at *
      rcases e1 with rfl | rfl
      · have HNL : Hid (∀ i, i < j + 1 → lacks p q (2 ^ i : Nat) = false) := fun i hi => by
          by_cases e : i = j
          · subst e; rw [HB.out.1, HLK.out]; rfl
          · exact HN.out i (by omega)
        go_wp2
        go_roundw
        case rel => exact ⟨j + 1, by omega, by rw [HB.out.2], trivial, HNL.out⟩
        case measure => simp [intOf]; omega
      · rcases e2 with rfl | rfl
        · have HR := hid (HS3.out HLK.out)
          go_wp2
          go_ret
          exact ⟨by rw [HR.out]; simp, rfl⟩
        · have HNL : Hid (∀ i, i < j + 1 → lacks p q (2 ^ i : Nat) = false) := fun i hi => by
            by_cases e : i = j
            · subst e; rw [HB.out.1, HLK.out]; rfl
            · exact HN.out i (by omega)
          go_wp2
          go_roundw
          case rel => exact ⟨j + 1, by omega, by rw [HB.out.2], trivial, HNL.out⟩
          case measure => simp [intOf]; omega
    · obtain rfl : j = 3 := by omega
      have HR : Hid (sub p q = true) := by
        show _ = _
        rw [HS.out]
        have h0 := HN.out 0 (by omega)
        have h1 := HN.out 1 (by omega)
        have h2 := HN.out 2 (by omega)
        simp at h0 h1 h2
        simp [h0, h1, h2]
      go_wp2
      go_ret
      exact ⟨by rw [HR.out]; simp, rfl⟩
/-- A slot as a value; nothing, where there is none. -/
def slV (T : Int) : Option Sl → Value
  | some x => .agg #[.int .i64 T, .int .i64 x.s, .int .i64 x.r, .int .i64 x.n, .int .i64 x.a]
  | none => .agg #[.int .i64 0, .int .i64 0, .int .i64 0, .int .i64 0, .int .i64 0]
/-- Five cells put over a slot. -/
def put5 (w : World) (B : Nat) (x0 x1 x2 x3 x4 : Value) : World := ((((w.setCell ⟨B, 0, none⟩ x0).setCell ⟨B, 1, none⟩ x1).setCell ⟨B, 2, none⟩ x2).setCell ⟨B, 3, none⟩ x3).setCell ⟨B, 4, none⟩ x4
theorem put5_heap {w : World} {B : Nat} {y0 y1 y2 y3 y4 : Value} {T : TypeId} (h : w.heap[B]? = some (.cells #[y0, y1, y2, y3, y4] T (0, 0))) (x0 x1 x2 x3 x4 : Value) : (put5 w B x0 x1 x2 x3 x4).heap[B]? = some (.cells #[x0, x1, x2, x3, x4] T (0, 0)) := by
  simp [put5, World.setCell, Array.getElem?_modify, h]
theorem put5_fr {w0 w : World} {B : Nat} (f : Fr (fun _ => False) w0 w) (hB : w0.heap.size ≤ B) (x0 x1 x2 x3 x4 : Value) : Fr (fun _ => False) w0 (put5 w B x0 x1 x2 x3 x4) :=
  ((((((f.mono (S' := fun k => w0.heap.size ≤ k) fun _ _ e => e.elim).setCell (p := ⟨B, 0, none⟩) hB _).setCell (p := ⟨B, 1, none⟩) hB _).setCell (p := ⟨B, 2, none⟩) hB _).setCell (p := ⟨B, 3, none⟩) hB _).setCell (p := ⟨B, 4, none⟩) hB _).new
set_option maxHeartbeats 1000000 in
theorem e_find {w : World} {base r : Nat} {v : Value} {c : Ct} (h : Rc w base r v c) {b : Int} (b0 : 0 ≤ b) (b1 : b ≤ 18446744073709551615) : Calls Tryd.prog 30 #[.pointer (some ⟨r, 0, none⟩), .int .u64 b] w fun e w' => e = .returned (.tuple #[slV c.T (look c b), .bool (look c b).isSome]) ∧ Fr (fun _ => False) w w' := by
  have H1 := hid fun w => e_unpack b0 b1 w
  have HR := hid h
  obtain ⟨ad, cap, rfl, hcap, hg, hn⟩ := h.form
  have hlen := h.len
  clear h hg hn
  go_enter Tryd.func30, Tryd.ntmps30
  go_wp2_with fail
  refine (H1.out _).mono ?_
  rintro e w1 ⟨rfl, f1⟩
  have HF1 := hid (((Fr.refl (fun _ => False) w).alloc _).trans f1)
  have HZ : Hid ((w1.alloc (.cells #[.int .i64 (unT b), .int .i64 (unS b), .int .i64 (unR b), .int .i64 (unN b)] 53)).heap[w.heap.size]? = some (.cells #[.int .i64 0, .int .i64 0, .int .i64 0, .int .i64 0, .int .i64 0] 75 (0, 0))) := by
    show _ = _
    have e1 : w1.heap[w.heap.size]? = (w.alloc _).heap[w.heap.size]? := f1.block w.heap.size (by simp) id
    rw [Below.heap_alloc _ _ _ (by have := f1.size; simp at this; omega), e1]
    exact heap_alloc_new w _
  clear f1
  have HK := hid (Kb.new w1 (unT b) (unS b) (unR b) (unN b))
  have HFL := hid (HF1.out.alloc (.cells #[.int .i64 (unT b), .int .i64 (unS b), .int .i64 (unR b), .int .i64 (unN b)] 53))
  have HKU := hid fun (x : Sl) (hx : x ∈ c.L) => bits_un (T := c.T) (x := x) (h := b) (HR.out.ok.kr x hx).1
  go_wp2
  clear H1
  generalize w1.alloc (.cells #[.int .i64 (unT b), .int .i64 (unS b), .int .i64 (unR b), .int .i64 (unN b)] 53) = wl at *
  generalize w1.heap.size = B at *
  generalize unT b = kt at *
  generalize unS b = ks at *
  generalize unR b = kr at *
  generalize unN b = kn at *
  go_loopw [8] (fun i wr => ∃ j : Nat, j ≤ c.L.length ∧ i = .int .i64 j ∧ Fr (fun _ => False) wl wr ∧ ∀ q (hq : q < j) (hl : q < c.L.length), c.L[q].bits c.T ≠ b) (fun i _ => c.L.length - (intOf i).toNat)
  case atStart => exact ⟨0, by omega, rfl, Fr.refl _ _, fun q hq => by omega⟩
  case round =>
    obtain ⟨j, hj, rfl, hf, hno⟩ := hrel
    have HN := hid hno
    have HRn := hid (HR.out.kept (HFL.out.trans hf))
    have HKn := hid (HK.out.kept hf)
    have HFn := hid hf
    clear hno hf
    have c2 := HRn.out.c2
    have k0 := HKn.out.c0
    have k1 := HKn.out.c1
    have k2 := HKn.out.c2
    have k3 := HKn.out.c3
    by_cases hlt : j < c.L.length
    · obtain ⟨g, cap', e, x0, x1, x2, x3, x4⟩ := HRn.out.cells j hlt
      simp only [Value.slice.injEq] at e
      obtain ⟨rfl, _, rfl⟩ := e
      have hku := HKU.out _ (List.getElem_mem hlt)
      by_cases hm : c.L[j].bits c.T = b
      · obtain ⟨e1, e2, e3, e4⟩ := hku.1 hm
        have HLK : Hid (look c b = some ⟨c.L[j].s, c.L[j].r, c.L[j].n, c.L[j].a⟩) := by
          show _ = _
          rw [← hm]
          exact look_at HR.out.ok (List.getElem_mem hlt)
        have HZn : Hid (wr.heap[w.heap.size]? = some (.cells #[.int .i64 0, .int .i64 0, .int .i64 0, .int .i64 0, .int .i64 0] 75 (0, 0))) := by
          show _ = _
          rw [HFn.out.block _ (Array.getElem?_eq_some_iff.1 HZ.out).1 id]; exact HZ.out
        have z0 : wr.cell? ⟨w.heap.size, 0, none⟩ = some (.int .i64 0) := by simp [World.cell?, HZn.out]
        have z1 : wr.cell? ⟨w.heap.size, 1, none⟩ = some (.int .i64 0) := by simp [World.cell?, HZn.out]
        have z2 : wr.cell? ⟨w.heap.size, 2, none⟩ = some (.int .i64 0) := by simp [World.cell?, HZn.out]
        have z3 : wr.cell? ⟨w.heap.size, 3, none⟩ = some (.int .i64 0) := by simp [World.cell?, HZn.out]
        have z4 : wr.cell? ⟨w.heap.size, 4, none⟩ = some (.int .i64 0) := by simp [World.cell?, HZn.out]
        have f0 : ∀ k, wr.frozen? ⟨w.heap.size, k, none⟩ = false := fun k => by simp [World.frozen?, HZn.out]
        have f00 := f0 0
        have f01 := f0 1
        have f02 := f0 2
        have f03 := f0 3
        have f04 := f0 4
        rw [← e1] at k0
        rw [← e2] at k1
        rw [← e3] at k2
        rw [← e4] at k3
        clear hm hku f0 e1 e2 e3 e4
        generalize c.L[j].s = xs at *
        generalize c.L[j].r = xr at *
        generalize c.L[j].n = xn at *
        generalize c.L[j].a = xa at *
        go_wp2
        go_quiet (fail)
        go_wp2
        have hp := put5_heap (w := wr.drewN nq) HZn.out (.int .i64 c.T) (.int .i64 xs) (.int .i64 xr) (.int .i64 xn) (.int .i64 xa)
        have y0 : (put5 (wr.drewN nq) w.heap.size (.int .i64 c.T) (.int .i64 xs) (.int .i64 xr) (.int .i64 xn) (.int .i64 xa)).cell? ⟨w.heap.size, 0, none⟩ = some (.int .i64 c.T) := by simp [World.cell?, hp]
        have y1 : (put5 (wr.drewN nq) w.heap.size (.int .i64 c.T) (.int .i64 xs) (.int .i64 xr) (.int .i64 xn) (.int .i64 xa)).cell? ⟨w.heap.size, 1, none⟩ = some (.int .i64 xs) := by simp [World.cell?, hp]
        have y2 : (put5 (wr.drewN nq) w.heap.size (.int .i64 c.T) (.int .i64 xs) (.int .i64 xr) (.int .i64 xn) (.int .i64 xa)).cell? ⟨w.heap.size, 2, none⟩ = some (.int .i64 xr) := by simp [World.cell?, hp]
        have y3 : (put5 (wr.drewN nq) w.heap.size (.int .i64 c.T) (.int .i64 xs) (.int .i64 xr) (.int .i64 xn) (.int .i64 xa)).cell? ⟨w.heap.size, 3, none⟩ = some (.int .i64 xn) := by simp [World.cell?, hp]
        have y4 : (put5 (wr.drewN nq) w.heap.size (.int .i64 c.T) (.int .i64 xs) (.int .i64 xr) (.int .i64 xn) (.int .i64 xa)).cell? ⟨w.heap.size, 4, none⟩ = some (.int .i64 xa) := by simp [World.cell?, hp]
        have hfr := put5_fr ((HFL.out.trans HFn.out).drewN nq) (Nat.le_refl _) (.int .i64 c.T) (.int .i64 xs) (.int .i64 xr) (.int .i64 xn) (.int .i64 xa)
        refine bodyPost_ret (w := put5 (wr.drewN nq) w.heap.size (.int .i64 c.T) (.int .i64 xs) (.int .i64 xr) (.int .i64 xn) (.int .i64 xa)) (v := .tuple #[.agg #[.int .i64 c.T, .int .i64 xs, .int .i64 xr, .int .i64 xn, .int .i64 xa], .bool true]) ?_ rfl ⟨by rw [HLK.out]; rfl, hfr⟩
        generalize put5 (wr.drewN nq) w.heap.size (.int .i64 c.T) (.int .i64 xs) (.int .i64 xr) (.int .i64 xn) (.int .i64 xa) = w9 at *
        simp [results, Tryd.results30, go_sem, y0, y1, y2, y3, y4]
      · have hm2 : Hid (∀ q (hq : q < j + 1) (hl : q < c.L.length), c.L[q].bits c.T ≠ b) := fun q hq hl => by
          by_cases e : q = j
          · subst e; exact hm
          · exact HN.out q (by omega) hl
        have hne : ¬ (c.T = kt ∧ c.L[j].s = ks ∧ c.L[j].r = kr ∧ c.L[j].n = kn) := fun h => hm (hku.2 h)
        clear hm hku
        generalize c.L[j].s = xs at *
        generalize c.L[j].r = xr at *
        generalize c.L[j].n = xn at *
        generalize c.L[j].a = xa at *
        have hcs : (c.T == kt) = false ∨ ((c.T == kt) = true ∧ (xs == ks) = false) ∨ ((c.T == kt) = true ∧ (xs == ks) = true ∧ (xr == kr) = false) ∨ ((c.T == kt) = true ∧ (xs == ks) = true ∧ (xr == kr) = true ∧ (xn == kn) = false) := by
          simp only [beq_iff_eq, beq_eq_false_iff_ne]
          omega
        clear hne
        rcases hcs with q1 | ⟨q1, q2⟩ | ⟨q1, q2, q3⟩ | ⟨q1, q2, q3, q4⟩
        all_goals
          go_wp2
          go_quiet (fail)
          go_wp2
          go_roundw
          case rel => exact ⟨j + 1, by omega, by go_num, HFn.out.drewN nq, hm2.out⟩
          case measure => simp [intOf]; omega
    · have HLK : Hid (look c b = none) := by
        show _ = _
        unfold look
        rw [List.find?_eq_none]
        intro x hx e
        obtain ⟨q, hq, rfl⟩ := List.getElem_of_mem hx
        exact HN.out q (by omega) hq (by simpa using e)
      have HZn : Hid (wr.heap[w.heap.size]? = some (.cells #[.int .i64 0, .int .i64 0, .int .i64 0, .int .i64 0, .int .i64 0] 75 (0, 0))) := by
        show _ = _
        rw [HFn.out.block _ (Array.getElem?_eq_some_iff.1 HZ.out).1 id]; exact HZ.out
      have z0 : wr.cell? ⟨w.heap.size, 0, none⟩ = some (.int .i64 0) := by simp [World.cell?, HZn.out]
      have z1 : wr.cell? ⟨w.heap.size, 1, none⟩ = some (.int .i64 0) := by simp [World.cell?, HZn.out]
      have z2 : wr.cell? ⟨w.heap.size, 2, none⟩ = some (.int .i64 0) := by simp [World.cell?, HZn.out]
      have z3 : wr.cell? ⟨w.heap.size, 3, none⟩ = some (.int .i64 0) := by simp [World.cell?, HZn.out]
      have z4 : wr.cell? ⟨w.heap.size, 4, none⟩ = some (.int .i64 0) := by simp [World.cell?, HZn.out]
      have f0 : ∀ k, wr.frozen? ⟨w.heap.size, k, none⟩ = false := fun k => by simp [World.frozen?, HZn.out]
      have f00 := f0 0
      have f01 := f0 1
      have f02 := f0 2
      have f03 := f0 3
      have f04 := f0 4
      clear f0 k0 k1 k2 k3
      go_wp2
      have hp := put5_heap (w := wr) HZn.out (.int .i64 0) (.int .i64 0) (.int .i64 0) (.int .i64 0) (.int .i64 0)
      have y0 : (put5 wr w.heap.size (.int .i64 0) (.int .i64 0) (.int .i64 0) (.int .i64 0) (.int .i64 0)).cell? ⟨w.heap.size, 0, none⟩ = some (.int .i64 0) := by simp [World.cell?, hp]
      have y1 : (put5 wr w.heap.size (.int .i64 0) (.int .i64 0) (.int .i64 0) (.int .i64 0) (.int .i64 0)).cell? ⟨w.heap.size, 1, none⟩ = some (.int .i64 0) := by simp [World.cell?, hp]
      have y2 : (put5 wr w.heap.size (.int .i64 0) (.int .i64 0) (.int .i64 0) (.int .i64 0) (.int .i64 0)).cell? ⟨w.heap.size, 2, none⟩ = some (.int .i64 0) := by simp [World.cell?, hp]
      have y3 : (put5 wr w.heap.size (.int .i64 0) (.int .i64 0) (.int .i64 0) (.int .i64 0) (.int .i64 0)).cell? ⟨w.heap.size, 3, none⟩ = some (.int .i64 0) := by simp [World.cell?, hp]
      have y4 : (put5 wr w.heap.size (.int .i64 0) (.int .i64 0) (.int .i64 0) (.int .i64 0) (.int .i64 0)).cell? ⟨w.heap.size, 4, none⟩ = some (.int .i64 0) := by simp [World.cell?, hp]
      have hfr := put5_fr (HFL.out.trans HFn.out) (Nat.le_refl _) (.int .i64 0) (.int .i64 0) (.int .i64 0) (.int .i64 0) (.int .i64 0)
      refine bodyPost_ret (w := put5 wr w.heap.size (.int .i64 0) (.int .i64 0) (.int .i64 0) (.int .i64 0) (.int .i64 0)) (v := .tuple #[.agg #[.int .i64 0, .int .i64 0, .int .i64 0, .int .i64 0, .int .i64 0], .bool false]) ?_ rfl ⟨by rw [HLK.out]; rfl, hfr⟩
      generalize put5 wr w.heap.size (.int .i64 0) (.int .i64 0) (.int .i64 0) (.int .i64 0) (.int .i64 0) = w9 at *
      simp [results, Tryd.results30, go_sem, y0, y1, y2, y3, y4]
end Go.Proofs.YtcleheapfgapaaaDoor
