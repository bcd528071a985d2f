/-
  What the document's page does: New, Move.
-/
import Derived.Test.YthndakhnhnipnaaDoorPaRefC
namespace Go.Proofs.YthndakhnhnipnaaDoor
open Go.RowKit
open An

/-- May a page lie there? -/
abbrev Fits (n : Nat) (x : Int) : Prop := 0 ≤ x ∧ x % 512 = 0 ∧ x + 512 ≤ n
def pmE (n : Nat) (x : Int) : Int := if Fits n x then 0 else 12
def pmS (g : Pg) (n : Nat) (x : Int) : Pg := if Fits n x then ⟨x.toNat, g.kind, g.fresh, g.R, g.D⟩ else g
/-- A page that is being made. -/
def obP (r x kd : Nat) (v1 v2 : Value) : Obj := .cells ([Value.pointer (some ⟨r, 0, none⟩), Value.int .i64 x, Value.int .i64 kd, Value.int .i64 0] ++ ((List.replicate 32 false).map Value.bool ++ [v1, v2])).toArray 49 (0, 0)
theorem obP_36 {w : World} {P r x kd : Nat} {v1 v2 : Value} (h : w.heap[P]? = some (obP r x kd v1 v2)) (v : Value) : (w.setCell ⟨P, 36, none⟩ v).heap[P]? = some (obP r x kd v v2) := by
  have : (w.setCell ⟨P, 36, none⟩ v).heap[P]? = some (.cells (([Value.pointer (some ⟨r, 0, none⟩), Value.int .i64 x, Value.int .i64 kd, Value.int .i64 0] ++ ((List.replicate 32 false).map Value.bool ++ [v1, v2])).toArray.setIfInBounds 36 v) 49 (0, 0)) := by
    unfold obP at h
    simp only [World.setCell, Array.getElem?_modify, h]
    rfl
  rw [this]
  rfl
theorem obP_37 {w : World} {P r x kd : Nat} {v1 v2 : Value} (h : w.heap[P]? = some (obP r x kd v1 v2)) (v : Value) : (w.setCell ⟨P, 37, none⟩ v).heap[P]? = some (obP r x kd v1 v) := by
  have : (w.setCell ⟨P, 37, none⟩ v).heap[P]? = some (.cells (([Value.pointer (some ⟨r, 0, none⟩), Value.int .i64 x, Value.int .i64 kd, Value.int .i64 0] ++ ((List.replicate 32 false).map Value.bool ++ [v1, v2])).toArray.setIfInBounds 37 v) 49 (0, 0)) := by
    unfold obP at h
    simp only [World.setCell, Array.getElem?_modify, h]
    rfl
  rw [this]
  rfl
theorem obP_cell {w : World} {P r x kd : Nat} {v1 v2 : Value} (h : w.heap[P]? = some (obP r x kd v1 v2)) : w.cell? ⟨P, 36, none⟩ = some v1 ∧ w.cell? ⟨P, 37, none⟩ = some v2 ∧ ∀ k, w.frozen? ⟨P, k, none⟩ = false := by
  unfold obP at h
  simp [World.cell?, World.frozen?, h]
section
variable {w0 w : World} {Z0 Z : Nat → Prop} {a p r rd wt : Nat} {bs : List UInt8} {ss : List Sp} {g : Pg}
set_option maxRecDepth 20000 in
set_option maxHeartbeats 1000000 in
theorem s_fits (h : Am 56 a bs ss w Z) (x : Int) : Calls Tryd.prog 41 #[.pointer (some ⟨a, 0, none⟩), .int .i64 x] w fun e w' => e = .returned (.bool (decide (Fits bs.length x))) ∧ w' = w := by
  obtain ⟨b, c0⟩ := h.b0
  have hl := h.le
  clear h
  generalize bs.length = n at *
  by_cases h0 : 0 ≤ x
  case neg =>
    have he : Hid (decide (Fits n x) = false) := decide_eq_false fun m => h0 m.1
    generalize decide (Fits n x) = v at *
    go_enter Tryd.func41, Tryd.ntmps41
    go_wp2
    go_ret
    exact ⟨by rw [he.out]; simp, rfl⟩
  have ht := Int.tmod_eq_emod_of_nonneg (b := 512) h0
  by_cases h1 : x % 512 = 0
  case neg =>
    have he : Hid (decide (Fits n x) = false) := decide_eq_false fun m => h1 m.2.1
    generalize decide (Fits n x) = v at *
    have hb : ((x % 512) == 0) = false := by simp; omega
    go_enter Tryd.func41, Tryd.ntmps41
    go_wp2
    go_ret
    exact ⟨by rw [he.out]; simp, rfl⟩
  by_cases h2 : x ≤ n
  case neg =>
    have he : Hid (decide (Fits n x) = false) := decide_eq_false fun m => h2 (by omega)
    generalize decide (Fits n x) = v at *
    go_enter Tryd.func41, Tryd.ntmps41
    go_wp2
    go_ret
    exact ⟨by rw [he.out]; simp, rfl⟩
  have hw : IntKind.i64.wrap ((n : Int) - x) = n - x := wrapI _ (by omega) (by omega)
  by_cases h3 : (512 : Int) ≤ n - x
  · have he : Hid (decide (Fits n x) = true) := decide_eq_true ⟨h0, h1, by omega⟩
    generalize decide (Fits n x) = v at *
    go_enter Tryd.func41, Tryd.ntmps41
    go_wp2
    go_ret
    exact ⟨by rw [he.out]; simp, rfl⟩
  · have he : Hid (decide (Fits n x) = false) := decide_eq_false fun m => h3 (by omega)
    generalize decide (Fits n x) = v at *
    go_enter Tryd.func41, Tryd.ntmps41
    go_wp2
    go_ret
    exact ⟨by rw [he.out]; simp, rfl⟩
set_option maxRecDepth 20000 in
set_option maxHeartbeats 2000000 in
theorem s_move (ok : g.Fit bs.length) (h : Rp w0 Z0 w p r rd wt Z bs ss g) (x : Int) : Calls Tryd.prog 28 #[.pointer (some ⟨p, 0, none⟩), .int .i64 x] w fun e w' => e = .returned (.int .i64 (pmE bs.length x)) ∧ Rp w0 Z0 w' p r rd wt Z bs ss (pmS g bs.length x) := by
  have H1 : Hid (∀ w1, Fr (fun _ => False) w w1 → Calls Tryd.prog 41 #[.pointer (some ⟨r, 0, none⟩), .int .i64 x] w1 fun e w' => e = .returned (.bool (decide (Fits bs.length x))) ∧ w' = w1) := fun w1 f => s_fits (h.am.kept f) x
  have HP := hid h
  have c0 := h.pw.c0
  by_cases hf : Fits bs.length x
  · rw [decide_eq_true hf] at H1
    have hE : pmE bs.length x = 0 := if_pos hf
    have hS : pmS g bs.length x = ⟨x.toNat, g.kind, g.fresh, g.R, g.D⟩ := if_pos hf
    obtain ⟨x, rfl⟩ := Int.eq_ofNat_of_zero_le hf.1
    have hkf := kind_facts g.kind ok.kind
    have hlr := ok.r
    have hld := ok.d
    have hlie : ∀ v, (g.ck v).Lies bs.length (x : Int) := fun v => ⟨hf.1, by show (x : Int) + ((pu g.kind * pp g.kind : Nat) : Int) ≤ _; have := hf.2.2; have := hkf.2.2.1; omega⟩
    have HR : Hid (∀ w1 at_ kw, Rpr w0 Z0 w1 p r rd wt Z bs ss at_ g.kind g.fresh (hads g) (g.ck (lnk g.R)) kw → Calls Tryd.prog 61 #[.pointer (some ⟨rd, 0, none⟩), .int .i64 x] w1 fun e w' => e = .returned (.int .i64 0) ∧ Rpr w0 Z0 w' p r rd wt Z bs ss at_ g.kind g.fresh (hads g) ⟨x, pu g.kind, pp g.kind, lnk g.R⟩ kw) := fun w1 at_ kw h1 => by
      refine (r_move h1.qr h1.am (ok.ck hlr) (x : Int)).mono fun e w' ⟨he, q, f⟩ => ⟨by rw [he]; unfold moE; rw [if_pos (hlie _)], ?_⟩
      unfold moS at q
      rw [if_pos (hlie _)] at q
      exact h1.ready (Left.own h1.am h1.z2 q f)
    have HW : Hid (∀ w1 at_ kr, Rpr w0 Z0 w1 p r rd wt Z bs ss at_ g.kind g.fresh (hads g) kr (g.ck (lnk g.D)) → Calls Tryd.prog 61 #[.pointer (some ⟨wt, 0, none⟩), .int .i64 x] w1 fun e w' => e = .returned (.int .i64 0) ∧ Rpr w0 Z0 w' p r rd wt Z bs ss at_ g.kind g.fresh (hads g) kr ⟨x, pu g.kind, pp g.kind, lnk g.D⟩) := fun w1 at_ kr h1 => by
      refine (r_move h1.qw h1.am (ok.ck hld) (x : Int)).mono fun e w' ⟨he, q, f⟩ => ⟨by rw [he]; unfold moE; rw [if_pos (hlie _)], ?_⟩
      unfold moS at q
      rw [if_pos (hlie _)] at q
      exact h1.waiting (Left.own h1.am h1.z3 q f)
    rw [hE, hS]
    clear h ok hf hE hS hkf hlr hld hlie
    go_enter Tryd.func28, Tryd.ntmps28
    go_wp2_with fail
    refine (H1.out _ (Fr.refl _ _)).mono ?_
    rintro e w1 ⟨rfl, hw⟩
    obtain rfl := hw.symm
    clear hw H1
    have c1 := HP.out.pw.c1
    have fz := HP.out.pw.fz
    have h2 := HP.out.own (HP.out.pw.setAt (x : Int))
    have HP2 := hid h2
    have d36 := h2.pw.c36
    clear h2
    go_wp2_with fail
    refine (HR.out _ _ _ HP2.out).mono ?_
    rintro e w3 ⟨rfl, h3⟩
    have HP3 := hid h3
    have e37 := h3.pw.c37
    clear h3 HP2 HR d36 c0 c1 fz HP
    go_wp2_with fail
    refine (HW.out _ _ _ HP3.out).mono ?_
    rintro e w4 ⟨rfl, h4⟩
    have HP4 := hid h4
    clear h4 HP3 HW e37
    go_wp2
    go_ret
    exact ⟨by simp, HP4.out⟩
  · rw [decide_eq_false hf] at H1
    have hE : pmE bs.length x = 12 := if_neg hf
    have hS : pmS g bs.length x = g := if_neg hf
    rw [hE, hS]
    clear h ok hf hE hS
    go_enter Tryd.func28, Tryd.ntmps28
    go_wp2_with fail
    refine (H1.out _ (Fr.refl _ _)).mono ?_
    rintro e w1 ⟨rfl, hw⟩
    obtain rfl := hw.symm
    clear hw H1
    go_wp2
    go_ret
    exact ⟨by simp, HP.out⟩
theorem s_new_no (h : Am 56 a bs ss w Z) {x kd : Int} (hn : ¬ ((0 ≤ kd ∧ kd ≤ 7) ∧ Fits bs.length x)) : Calls Tryd.prog 10 #[.pointer (some ⟨a, 0, none⟩), .int .i64 x, .int .i64 kd] w fun e w' => e = .returned (.tuple #[.pointer none, .int .i64 12]) ∧ w' = w := by
  have H1 := hid (s_fits h x)
  clear h
  by_cases h0 : kd < 0
  · clear hn
    go_enter Tryd.func10, Tryd.ntmps10
    go_wp2
    go_ret2
    exact ⟨by simp, rfl⟩
  by_cases h1 : 7 < kd
  · clear hn
    go_enter Tryd.func10, Tryd.ntmps10
    go_wp2
    go_ret2
    exact ⟨by simp, rfl⟩
  rw [decide_eq_false fun m => hn ⟨⟨by omega, by omega⟩, m⟩] at H1
  clear hn
  go_enter Tryd.func10, Tryd.ntmps10
  go_wp2_with fail
  refine H1.out.mono ?_
  rintro e w1 ⟨rfl, hw⟩
  obtain rfl := hw.symm
  clear hw
  go_wp2
  go_ret2
  exact ⟨by simp, rfl⟩
set_option maxRecDepth 20000 in
set_option maxHeartbeats 4000000 in
theorem s_new (ht : Tab w) (h : Am 56 r bs ss w Z) {x kd : Nat} (hk : kd ≤ 7) (hf : Fits bs.length x) : Calls Tryd.prog 10 #[.pointer (some ⟨r, 0, none⟩), .int .i64 x, .int .i64 kd] w fun e w' => ∃ p rd wt, e = .returned (.tuple #[.pointer (some ⟨p, 0, none⟩), .int .i64 0]) ∧ (w.heap.size ≤ p ∧ w.heap.size ≤ rd ∧ w.heap.size ≤ wt) ∧ Fr (fun _ => False) w w' ∧ Rw12 w' p r x kd 0 (List.replicate 32 false) rd wt ∧ Rch w' rd r ⟨x, pu kd, pp kd, 0⟩ ∧ Rch w' wt r ⟨x, pu kd, pp kd, 0⟩ ∧ p ≠ rd ∧ p ≠ wt ∧ rd ≠ wt := by
  have H1 := hid (s_fits h (x : Int))
  rw [decide_eq_true hf] at H1
  have hkf := kind_facts kd hk
  have HU : Hid (∀ w1, Fr (fun k => w.heap.size ≤ k) w w1 → Calls Tryd.prog 30 #[.int .i64 kd] w1 fun e w' => e = .returned (.int .i64 (pu kd)) ∧ Fr (fun _ => False) w1 w') := fun w1 f => (r_unit kd (K.start (ht.carry f (by have := ht.pos; omega)))).mono fun e w' ⟨he, k⟩ => ⟨by rw [he, hkf.2.2.2.1], k.fr⟩
  have HPe : Hid (∀ w1, Fr (fun k => w.heap.size ≤ k) w w1 → Calls Tryd.prog 31 #[.int .i64 kd] w1 fun e w' => e = .returned (.int .i64 (pp kd)) ∧ Fr (fun _ => False) w1 w') := fun w1 f => (r_per kd (K.start (ht.carry f (by have := ht.pos; omega)))).mono fun e w' ⟨he, k⟩ => ⟨by rw [he, hkf.2.2.2.2], k.fr⟩
  have hno : NewOk bs.length (x : Int) (pu kd : Int) (pp kd : Int) := ⟨⟨by omega, by omega⟩, ⟨by omega, by omega⟩, by omega, by rw [← Int.natCast_mul]; have := hf.2.2; have := hkf.2.2.1; omega⟩
  have HN : Hid (∀ w1, Fr (fun k => w.heap.size ≤ k) w w1 → Calls Tryd.prog 42 #[.pointer (some ⟨r, 0, none⟩), .int .i64 x, .int .i64 (pu kd), .int .i64 (pp kd)] w1 fun e w' => ∃ c, e = .returned (.tuple #[.pointer (some ⟨c, 0, none⟩), .int .i64 0]) ∧ w1.heap.size ≤ c ∧ Rch w' c r ⟨x, pu kd, pp kd, 0⟩ ∧ Fr (fun _ => False) w1 w') := fun w1 f => r_new ((Am.good _ _ _ _).carry h f fun i hi e => by have := h.lt i hi; omega) hno
  have g1 : ¬ (kd : Int) < 0 := by omega
  have g2 : ¬ 7 < (kd : Int) := by omega
  clear h ht hf hkf hno hk
  go_enter Tryd.func10, Tryd.ntmps10
  go_wp2_with fail
  refine H1.out.mono ?_
  rintro e w1 ⟨rfl, hw⟩
  obtain rfl := hw.symm
  clear hw H1
  have HO : Hid ((w.alloc (.cells #[.pointer (some ⟨r, 0, none⟩), .int .i64 x, .int .i64 kd, .int .i64 0, .bool false, .bool false, .bool false, .bool false, .bool false, .bool false, .bool false, .bool false, .bool false, .bool false, .bool false, .bool false, .bool false, .bool false, .bool false, .bool false, .bool false, .bool false, .bool false, .bool false, .bool false, .bool false, .bool false, .bool false, .bool false, .bool false, .bool false, .bool false, .bool false, .bool false, .bool false, .bool false, .pointer none, .pointer none] 49)).heap[w.heap.size]? = some (obP r x kd (.pointer none) (.pointer none))) := heap_alloc_new w _
  have HF0 := hid ((Fr.refl (fun k => w.heap.size ≤ k) w).alloc (.cells #[.pointer (some ⟨r, 0, none⟩), .int .i64 x, .int .i64 kd, .int .i64 0, .bool false, .bool false, .bool false, .bool false, .bool false, .bool false, .bool false, .bool false, .bool false, .bool false, .bool false, .bool false, .bool false, .bool false, .bool false, .bool false, .bool false, .bool false, .bool false, .bool false, .bool false, .bool false, .bool false, .bool false, .bool false, .bool false, .bool false, .bool false, .bool false, .bool false, .bool false, .bool false, .pointer none, .pointer none] 49))
  generalize hP : w.heap.size = P at *
  go_wp2_with fail
  refine (HU.out _ HF0.out).mono ?_
  rintro e w2 ⟨rfl, f2⟩
  have HF2 := hid (HF0.out.trans (f2.mono fun _ _ e => e.elim))
  have HO2 : Hid (w2.heap[P]? = some (obP r x kd (.pointer none) (.pointer none))) := (f2.block P (Array.getElem?_eq_some_iff.1 HO.out).1 id).trans HO.out
  clear f2 HF0 HO
  go_wp2_with fail
  refine (HPe.out _ HF2.out).mono ?_
  rintro e w3 ⟨rfl, f3⟩
  have HF3 := hid (HF2.out.trans (f3.mono fun _ _ e => e.elim))
  have HO3 : Hid (w3.heap[P]? = some (obP r x kd (.pointer none) (.pointer none))) := (f3.block P (Array.getElem?_eq_some_iff.1 HO2.out).1 id).trans HO2.out
  clear f3 HF2 HO2
  go_wp2_with fail
  refine (HN.out _ HF3.out).mono ?_
  rintro e w4 ⟨rd, rfl, hrd, q4, f4⟩
  have hP3 : P < w3.heap.size := (Array.getElem?_eq_some_iff.1 HO3.out).1
  have HO4 : Hid (w4.heap[P]? = some (obP r x kd (.pointer none) (.pointer none))) := (f4.block P hP3 id).trans HO3.out
  have k4 := obP_cell HO4.out
  obtain ⟨a1, a2, a3⟩ := k4
  have hne : Hid (P ≠ rd) := by show P ≠ rd; omega
  have f5 : Fr (fun i => i = P) w4 (w4.setCell ⟨P, 36, none⟩ (.pointer (some ⟨rd, 0, none⟩))) := Fr.setCell (S := fun i => i = P) (p := ⟨P, 36, none⟩) (Fr.refl _ _) rfl _
  have HO5 := hid (obP_36 HO4.out (.pointer (some ⟨rd, 0, none⟩)))
  have HQ5 := hid (Rch.chain.carry q4 f5 fun e => hne.out e.symm)
  have HF5 := hid ((HF3.out.trans (f4.mono fun _ _ e => e.elim)).trans (f5.mono fun i _ e => by show P ≤ i; omega))
  have HLE : Hid (P ≤ rd) := by show P ≤ rd; omega
  clear hrd q4 f4 f5 HF3 HO3 HO4 hP3
  go_wp2_with fail
  refine (HU.out _ HF5.out).mono ?_
  rintro e w6 ⟨rfl, f6⟩
  have HF6 := hid (HF5.out.trans (f6.mono fun _ _ e => e.elim))
  have HO6 := hid ((f6.block P (Array.getElem?_eq_some_iff.1 HO5.out).1 id).trans HO5.out)
  have HQ6 := hid (Rch.chain.carry HQ5.out f6 id)
  clear f6 HF5 HO5 HQ5 a1 a2 a3
  go_wp2_with fail
  refine (HPe.out _ HF6.out).mono ?_
  rintro e w7 ⟨rfl, f7⟩
  have HF7 := hid (HF6.out.trans (f7.mono fun _ _ e => e.elim))
  have HO7 := hid ((f7.block P (Array.getElem?_eq_some_iff.1 HO6.out).1 id).trans HO6.out)
  have HQ7 := hid (Rch.chain.carry HQ6.out f7 id)
  clear f7 HF6 HO6 HQ6
  go_wp2_with fail
  refine (HN.out _ HF7.out).mono ?_
  rintro e w8 ⟨wt, rfl, hwt, q8, f8⟩
  have hP7 : P < w7.heap.size := (Array.getElem?_eq_some_iff.1 HO7.out).1
  have HO8 := hid ((f8.block P hP7 id).trans HO7.out)
  have HQ8 := hid (Rch.chain.carry HQ7.out f8 id)
  have hr7 : rd < w7.heap.size := Rch.chain.lt HQ7.out
  obtain ⟨a1, a2, a3⟩ := obP_cell HO8.out
  have hne2 : Hid (P ≠ wt ∧ rd ≠ wt ∧ P ≤ wt) := ⟨by omega, by omega, by omega⟩
  have f9 : Fr (fun i => i = P) w8 (w8.setCell ⟨P, 37, none⟩ (.pointer (some ⟨wt, 0, none⟩))) := Fr.setCell (S := fun i => i = P) (p := ⟨P, 37, none⟩) (Fr.refl _ _) rfl _
  have HO9 := hid (obP_37 HO8.out (.pointer (some ⟨wt, 0, none⟩)))
  have HQ9 := hid (Rch.chain.carry HQ8.out f9 fun e => hne.out e.symm)
  have HR9 := hid (Rch.chain.carry q8 f9 fun e => hne2.out.1 e.symm)
  have HF9 := hid ((HF7.out.trans (f8.mono fun _ _ e => e.elim)).trans (f9.mono fun i _ e => by show P ≤ i; omega))
  clear hwt q8 f8 f9 HF7 HO7 HO8 HQ7 HQ8 hP7 hr7
  go_wp2
  go_ret2
  refine ⟨P, rd, wt, by simp, ⟨by omega, hP ▸ HLE.out, hP ▸ hne2.out.2.2⟩, ?_, ⟨HO9.out, by simp⟩, HQ9.out, HR9.out, hne.out, hne2.out.1, hne2.out.2.1⟩
  subst hP
  exact HF9.out.new
end
end Go.Proofs.YthndakhnhnipnaaDoor
