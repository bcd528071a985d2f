/-
  The program's shelf and the document's beside each other; what 'done' does.
-/
import Derived.Test.YtifoeakgefgddaaDoorShRef
namespace Go.Proofs.YtifoeakgefgddaaDoor
open Go.RowKit

/-- A shelf of the program's and one of the document's, both made behind W. -/
structure Both (W w : World) (a b : Nat) (has : List Bool) (r t : Nat) (hast : List Bool) : Prop where
  one : Mine W w a b has
  ref : Rf w r t hast
  lr : W.heap.size ≤ r
  lt : W.heap.size ≤ t
  d1 : b ≠ r
  d2 : b ≠ t
  d3 : t ≠ a
section
variable {W w w' : World} {a b r t : Nat} {has has' hast hast' : List Bool}
theorem Both.step1 (h : Both W w a b has r t hast) (h1 : Sh w' a b has') (hf : Fr (fun i => i = b) w w') : Both W w' a b has' r t hast :=
  ⟨h.one.step h1 hf, h.ref.carry hf (fun e => h.d1 e.symm) (fun e => h.d2 e.symm), h.lr, h.lt, h.d1, h.d2, h.d3⟩
theorem Both.step2 (h : Both W w a b has r t hast) (h1 : Rf w' r t hast') (hf : Fr (fun i => i = t) w w') : Both W w' a b has r t hast' :=
  ⟨h.one.kept hf (fun i he => by subst he; exact ⟨h.lt, h.d3, fun e => h.d2 e.symm⟩), h1, h.lr, h.lt, h.d1, h.d2, h.d3⟩
theorem Both.kept {S : Nat → Prop} (h : Both W w a b has r t hast) (hf : Fr S w w') (h1 : ∀ i, S i → w.heap.size ≤ i) : Both W w' a b has r t hast := by
  have g1 := h.one.sh.lta; have g2 := h.one.sh.ltb; have g3 := h.ref.ltr; have g4 := h.ref.ltt; have g5 := h.one.la
  exact ⟨h.one.kept hf (fun i he => by have := h1 i he; exact ⟨by omega, by omega, by omega⟩), h.ref.carry hf (fun he => by have := h1 _ he; omega) (fun he => by have := h1 _ he; omega), h.lr, h.lt, h.d1, h.d2, h.d3⟩
theorem Both.drew (h : Both W w a b has r t hast) : Both W w.drew a b has r t hast := h.kept (S := fun _ => False) ((Fr.refl _ w).drew) (fun _ h => h.elim)
theorem Both.alloc (h : Both W w a b has r t hast) (o : Obj) : Both W (w.alloc o) a b has r t hast := h.kept (S := fun _ => False) ((Fr.refl _ w).alloc o) (fun _ h => h.elim)
/-- What the calls of either turn. -/
def BT (b t i : Nat) : Prop := i = b ∨ i = t
theorem Fr.bt1 (h : Fr (fun i => i = b) w w') : Fr (BT b t) w w' := h.mono (fun _ _ e => .inl e)
theorem Fr.bt2 (h : Fr (fun i => i = t) w w') : Fr (BT b t) w w' := h.mono (fun _ _ e => .inr e)
theorem p_take (h : Both W w a b has r t hast) :
    Calls Tryd.prog 13 #[.pointer (some ⟨a, 0, none⟩)] w fun e w' => e = .returned (.tuple #[.int .i64 (takV has), .int .i64 (takE has)]) ∧ Both W w' a b (takS has) r t hast ∧ Fr (BT b t) w w' :=
  (s_take h.one.sh).mono fun _ _ ⟨he, hs, hf⟩ => ⟨he, h.step1 hs hf, hf.bt1⟩
theorem p_takeAt (h : Both W w a b has r t hast) (k : Int) :
    Calls Tryd.prog 22 #[.pointer (some ⟨a, 0, none⟩), .int .i64 k] w fun e w' => e = .returned (.int .i64 (taE has k)) ∧ Both W w' a b (taS has k) r t hast ∧ Fr (BT b t) w w' :=
  (s_takeAt h.one.sh k).mono fun _ _ ⟨he, hs, hf⟩ => ⟨he, h.step1 hs hf, hf.bt1⟩
theorem p_give (h : Both W w a b has r t hast) (k : Int) :
    Calls Tryd.prog 23 #[.pointer (some ⟨a, 0, none⟩), .int .i64 k] w fun e w' => e = .returned (.int .i64 (giE has k)) ∧ Both W w' a b (giS has k) r t hast ∧ Fr (BT b t) w w' :=
  (s_give h.one.sh k).mono fun _ _ ⟨he, hs, hf⟩ => ⟨he, h.step1 hs hf, hf.bt1⟩
theorem q_take (h : Both W w a b has r t hast) :
    Calls Tryd.prog 26 #[.pointer (some ⟨r, 0, none⟩)] w fun e w' => e = .returned (.tuple #[.int .i64 (takV hast), .int .i64 (takE hast)]) ∧ Both W w' a b has r t (takS hast) ∧ Fr (BT b t) w w' :=
  (d_take h.ref).mono fun _ _ ⟨he, hs, hf⟩ => ⟨he, h.step2 hs hf, hf.bt2⟩
theorem q_takeAt (h : Both W w a b has r t hast) (k : Int) :
    Calls Tryd.prog 27 #[.pointer (some ⟨r, 0, none⟩), .int .i64 k] w fun e w' => e = .returned (.int .i64 (taE hast k)) ∧ Both W w' a b has r t (taS hast k) ∧ Fr (BT b t) w w' :=
  (d_takeAt h.ref k).mono fun _ _ ⟨he, hs, hf⟩ => ⟨he, h.step2 hs hf, hf.bt2⟩
theorem q_give (h : Both W w a b has r t hast) (k : Int) :
    Calls Tryd.prog 28 #[.pointer (some ⟨r, 0, none⟩), .int .i64 k] w fun e w' => e = .returned (.int .i64 (giE hast k)) ∧ Both W w' a b has r t (giS hast k) ∧ Fr (BT b t) w w' :=
  (d_give h.ref k).mono fun _ _ ⟨he, hs, hf⟩ => ⟨he, h.step2 hs hf, hf.bt2⟩
theorem p_free (h : Both W w a b has r t hast) :
    Calls Tryd.prog 15 #[.pointer (some ⟨a, 0, none⟩)] w fun e w' => e = .returned (.int .i64 (frees has : Int)) ∧ w' = w := s_free h.one.sh
theorem p_lowest (h : Both W w a b has r t hast) :
    Calls Tryd.prog 17 #[.pointer (some ⟨a, 0, none⟩)] w fun e w' => e = .returned (.int .i64 (lowI has)) ∧ w' = w := s_lowest h.one.sh
end

/-- What a call of 'done' leaves: 1 Take, 2 TakeAt, 3 Give, else nothing. -/
def stepP (has : List Bool) (kind k : Int) : List Bool := if kind = 1 then takS has else if kind = 2 then taS has k else if kind = 3 then giS has k else has
theorem stepP_length (has : List Bool) (kind k : Int) : (stepP has kind k).length = has.length := by
  unfold stepP
  split
  · exact takS_length _
  · split
    · exact taS_length _ _
    · split
      · exact giS_length _ _
      · rfl
section
variable {W w : World} {a b r t : Nat} {has : List Bool}
theorem box_cell {S : Nat → Prop} {w w' : World} {x : Nat} {p q : Value} {T : TypeId} (hx : w.heap[x]? = some (.cells #[p, q] T (0, 0))) (hf : Fr S w w') (hn : ¬ S x) : w'.heap[x]? = some (.cells #[p, q] T (0, 0)) := by
  rw [hf.block x (Array.getElem?_eq_some_iff.1 hx).1 hn]; exact hx
theorem cell_one {w : World} {x : Nat} {p q : Value} {T : TypeId} (hx : w.heap[x]? = some (.cells #[p, q] T (0, 0))) : w.cell? ⟨x, 1, none⟩ = some q := by simp [World.cell?, hx]
set_option maxRecDepth 20000 in
set_option maxHeartbeats 1000000 in
theorem done_take (h : Both W w a b has r t has) (k : Int) :
    Calls Tryd.prog 14 #[.pointer (some ⟨a, 0, none⟩), .pointer (some ⟨r, 0, none⟩), .agg #[.int .i64 1, .int .i64 k]] w fun e w' => e = .returned (.bool true) ∧ Both W w' a b (takS has) r t (takS has) ∧ Fr (BT b t) w w' := by
  have HP := hid (p_take (h.alloc (.cells #[.int .i64 1, .int .i64 k] 32)))
  clear h
  go_enter Tryd.func14, Tryd.ntmps14
  go_wp2_with fail
  refine HP.out.mono ?_
  rintro e w1 ⟨rfl, h1, f1⟩
  have HQ := hid (q_take h1)
  have HF : Hid (Fr (BT b t) w w1) := ((Fr.refl _ w).alloc _).trans f1
  clear h1 f1 HP
  go_wp2_with fail
  refine HQ.out.mono ?_
  rintro e w2 ⟨rfl, h2, f2⟩
  have H2 := hid (And.intro h2 (HF.out.trans f2))
  clear h2 f2 HQ
  go_wp2
  go_ret
  exact ⟨by simp, H2.out⟩
set_option maxRecDepth 20000 in
set_option maxHeartbeats 1000000 in
theorem done_takeAt (h : Both W w a b has r t has) (k : Int) :
    Calls Tryd.prog 14 #[.pointer (some ⟨a, 0, none⟩), .pointer (some ⟨r, 0, none⟩), .agg #[.int .i64 2, .int .i64 k]] w fun e w' => e = .returned (.bool true) ∧ Both W w' a b (taS has k) r t (taS has k) ∧ Fr (BT b t) w w' := by
  have HP := hid (p_takeAt (h.alloc (.cells #[.int .i64 2, .int .i64 k] 32)).drew k)
  have hb := h.one.sh.ltb
  have ht := h.ref.ltt
  have HB : Hid ((w.alloc (.cells #[.int .i64 2, .int .i64 k] 32)).heap[w.heap.size]? = some (.cells #[.int .i64 2, .int .i64 k] 32 (0, 0))) := heap_alloc_new _ _
  clear h
  go_enter Tryd.func14, Tryd.ntmps14
  go_wp2_with fail
  go_region_with (first | (go_at_call 22; refine HP.out.mono ?_; rintro e w1 ⟨rfl, h1, f1⟩; have q1 := cell_one (box_cell HB.out ((Fr.refl (BT b t) _).drew.trans f1) (fun e => by rcases e with e | e <;> omega)); have HQ := hid (q_takeAt h1 k); have HF := hid (Fr.trans ((Fr.refl (BT b t) w).alloc _).drew f1); clear h1 f1) | (go_at_call 27; refine HQ.out.mono ?_; rintro e w2 ⟨rfl, h2, f2⟩; have H2 := hid (And.intro h2 (HF.out.trans f2)); clear h2 f2))
  all_goals
    go_wp2
    go_ret
    exact ⟨by simp [Act.put], H2.out⟩
set_option maxRecDepth 20000 in
set_option maxHeartbeats 1000000 in
theorem done_give (h : Both W w a b has r t has) (k : Int) :
    Calls Tryd.prog 14 #[.pointer (some ⟨a, 0, none⟩), .pointer (some ⟨r, 0, none⟩), .agg #[.int .i64 3, .int .i64 k]] w fun e w' => e = .returned (.bool true) ∧ Both W w' a b (giS has k) r t (giS has k) ∧ Fr (BT b t) w w' := by
  have HP := hid (p_give (h.alloc (.cells #[.int .i64 3, .int .i64 k] 32)).drew k)
  have hb := h.one.sh.ltb
  have ht := h.ref.ltt
  have HB : Hid ((w.alloc (.cells #[.int .i64 3, .int .i64 k] 32)).heap[w.heap.size]? = some (.cells #[.int .i64 3, .int .i64 k] 32 (0, 0))) := heap_alloc_new _ _
  clear h
  go_enter Tryd.func14, Tryd.ntmps14
  go_wp2_with fail
  go_region_with (first | (go_at_call 23; refine HP.out.mono ?_; rintro e w1 ⟨rfl, h1, f1⟩; have q1 := cell_one (box_cell HB.out ((Fr.refl (BT b t) _).drew.trans f1) (fun e => by rcases e with e | e <;> omega)); have HQ := hid (q_give h1 k); have HF := hid (Fr.trans ((Fr.refl (BT b t) w).alloc _).drew f1); clear h1 f1) | (go_at_call 28; refine HQ.out.mono ?_; rintro e w2 ⟨rfl, h2, f2⟩; have H2 := hid (And.intro h2 (HF.out.trans f2)); clear h2 f2))
  all_goals
    go_wp2
    go_ret
    exact ⟨by simp [Act.put], H2.out⟩
set_option maxRecDepth 20000 in
set_option maxHeartbeats 1000000 in
theorem done_none (h : Both W w a b has r t has) (kind k : Int) (hk : kind ≠ 1 ∧ kind ≠ 2 ∧ kind ≠ 3) :
    Calls Tryd.prog 14 #[.pointer (some ⟨a, 0, none⟩), .pointer (some ⟨r, 0, none⟩), .agg #[.int .i64 kind, .int .i64 k]] w fun e w' => e = .returned (.bool true) ∧ Both W w' a b has r t has ∧ Fr (BT b t) w w' := by
  have k1 : (kind == 1) = false := by simpa using hk.1
  have k2 : (kind == 2) = false := by simpa using hk.2.1
  have k3 : (kind == 3) = false := by simpa using hk.2.2
  have H2 : Hid (Both W (w.alloc (.cells #[.int .i64 kind, .int .i64 k] 32)) a b has r t has) := h.alloc _
  clear h hk
  go_enter Tryd.func14, Tryd.ntmps14
  go_wp2
  go_ret
  exact ⟨by simp, H2.out, (Fr.refl _ w).alloc _⟩
theorem done_any (h : Both W w a b has r t has) (kind k : Int) :
    Calls Tryd.prog 14 #[.pointer (some ⟨a, 0, none⟩), .pointer (some ⟨r, 0, none⟩), .agg #[.int .i64 kind, .int .i64 k]] w fun e w' => e = .returned (.bool true) ∧ Both W w' a b (stepP has kind k) r t (stepP has kind k) ∧ Fr (BT b t) w w' := by
  unfold stepP
  by_cases k1 : kind = 1
  · subst k1; rw [if_pos rfl]; exact done_take h k
  · rw [if_neg k1]
    by_cases k2 : kind = 2
    · subst k2; rw [if_pos rfl]; exact done_takeAt h k
    · rw [if_neg k2]
      by_cases k3 : kind = 3
      · subst k3; rw [if_pos rfl]; exact done_give h k
      · rw [if_neg k3]; exact done_none h kind k ⟨k1, k2, k3⟩
end
end Go.Proofs.YtifoeakgefgddaaDoor
