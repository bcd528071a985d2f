/-
  One call of both: the program's chains and the document's answer the same.
-/
import Derived.Test.YtjgkcaibapffhaaChPair
import Derived.BigFrame
namespace Go.Proofs.Ytjgkcaibapffhaa
open Go.RowKit
open An

/-- The pair, the program's arena and chains, the document's: both have the same. -/
def PlayS (W w : World) (X : World → (Nat → Prop) → Prop) (P a r c0 c1 x0 x1 : Nat) (bs : List UInt8) (ss : List Sp) (k0 k1 : Ck) : Prop :=
  Things W w [X, Blk P (pcs (.pointer (some ⟨a, 0, none⟩)) (.pointer (some ⟨c0, 0, none⟩)) (.pointer (some ⟨c1, 0, none⟩)) (.pointer (some ⟨r, 0, none⟩)) (.pointer (some ⟨x0, 0, none⟩)) (.pointer (some ⟨x1, 0, none⟩))), Pc a bs ss [(c0, k0), (c1, k1)], Rf r bs ss [(x0, k0), (x1, k1)]]
/-- What a call leaves. -/
def After (W w : World) (X : World → (Nat → Prop) → Prop) (P a r c0 c1 x0 x1 : Nat) (N M : Nat) : Prop := ∃ bs ss k0 k1, bs.length = N ∧ ss.length ≤ M ∧ k1.per = k0.per ∧ PlayS W w X P a r c0 c1 x0 x1 bs ss k0 k1
theorem ocell {w : World} {B : Nat} {z0 z1 z2 z3 : Value} {T : TypeId} (h : w.heap[B]? = some (.cells #[z0, z1, z2, z3] T (0, 0))) : w.cell? ⟨B, 0, none⟩ = some z0 ∧ w.cell? ⟨B, 1, none⟩ = some z1 ∧ w.cell? ⟨B, 2, none⟩ = some z2 ∧ w.cell? ⟨B, 3, none⟩ = some z3 := by
  simp [World.cell?, h]
theorem per_pu (k : Ck) (x : Int) : (puS k x).per = k.per := by unfold puS; split <;> rfl
theorem per_po (k : Ck) (bs : List UInt8) : (poS k bs).per = k.per := by unfold poS; split <;> rfl
theorem per_ta (k d : Ck) : (taS k d).per = k.per ∧ (taD k d).per = d.per := by unfold taS taD; constructor <;> split <;> rfl
theorem per_mo (k : Ck) (n : Nat) (x : Int) : (moS k n x).per = k.per := by unfold moS; split <;> rfl
set_option maxRecDepth 20000 in
set_option maxHeartbeats 4000000 in
theorem done_1_0 {W w : World} {X : World → (Nat → Prop) → Prop} {P a r c0 c1 x0 x1 : Nat} {bs : List UInt8} {ss : List Sp} {k0 k1 : Ck} (h : PlayS W w X P a r c0 c1 x0 x1 bs ss k0 k1) (hp : k1.per = k0.per) (hk : ss.length ≤ 800000) (x v : Int) : Calls Try.prog 10 #[.pointer (some ⟨P, 0, none⟩), .agg #[.int .i64 1, .int .i64 x, .bool false, .int .u64 v]] w fun e w' => e = .returned (.bool true) ∧ After W w' X P a r c0 c1 x0 x1 bs.length (ss.length + 64) := by
  have T0 : Hid (Things W (w.alloc (.cells #[.int .i64 1, .int .i64 x, .bool false, .int .u64 v] 39)) [X, Blk P (pcs (.pointer (some ⟨a, 0, none⟩)) (.pointer (some ⟨c0, 0, none⟩)) (.pointer (some ⟨c1, 0, none⟩)) (.pointer (some ⟨r, 0, none⟩)) (.pointer (some ⟨x0, 0, none⟩)) (.pointer (some ⟨x1, 0, none⟩))), Pc a bs ss [(c0, k0), (c1, k1)], Rf r bs ss [(x0, k0), (x1, k1)], Blk w.heap.size (.cells #[.int .i64 1, .int .i64 x, .bool false, .int .u64 v] 39 (0, 0))]) := Things.blk h _
  generalize hB : w.heap.size = B at T0
  obtain ⟨⟨q0, q1, q2⟩, ⟨q3, q4, q5⟩, _⟩ := pcell (T0.out.cells 1 rfl)
  obtain ⟨p0, p1, p2, p3⟩ := ocell (T0.out.cells 4 rfl)
  have H1 : Hid (∀ w0, Things W w0 [X, Blk P (pcs (.pointer (some ⟨a, 0, none⟩)) (.pointer (some ⟨c0, 0, none⟩)) (.pointer (some ⟨c1, 0, none⟩)) (.pointer (some ⟨r, 0, none⟩)) (.pointer (some ⟨x0, 0, none⟩)) (.pointer (some ⟨x1, 0, none⟩))), Pc a bs ss [(c0, k0), (c1, k1)], Rf r bs ss [(x0, k0), (x1, k1)], Blk B (.cells #[.int .i64 1, .int .i64 x, .bool false, .int .u64 v] 39 (0, 0))] → Calls Try.prog 17 #[(.pointer (some ⟨c0, 0, none⟩)), .int .i64 x] w0 fun e w' => e = .returned (.int .i64 (puE k0 x)) ∧ Things W w' [X, Blk P (pcs (.pointer (some ⟨a, 0, none⟩)) (.pointer (some ⟨c0, 0, none⟩)) (.pointer (some ⟨c1, 0, none⟩)) (.pointer (some ⟨r, 0, none⟩)) (.pointer (some ⟨x0, 0, none⟩)) (.pointer (some ⟨x1, 0, none⟩))), Pc a (puB k0 bs x) (puT k0 ss x) [(c0, (puS k0 x)), (c1, k1)], Rf r bs ss [(x0, k0), (x1, k1)], Blk B (.cells #[.int .i64 1, .int .i64 x, .bool false, .int .u64 v] 39 (0, 0))]) := fun w0 h => g_push h 2 rfl (by omega) 0 rfl x
  have H2 : Hid (∀ w0, Things W w0 [X, Blk P (pcs (.pointer (some ⟨a, 0, none⟩)) (.pointer (some ⟨c0, 0, none⟩)) (.pointer (some ⟨c1, 0, none⟩)) (.pointer (some ⟨r, 0, none⟩)) (.pointer (some ⟨x0, 0, none⟩)) (.pointer (some ⟨x1, 0, none⟩))), Pc a (puB k0 bs x) (puT k0 ss x) [(c0, (puS k0 x)), (c1, k1)], Rf r bs ss [(x0, k0), (x1, k1)], Blk B (.cells #[.int .i64 1, .int .i64 x, .bool false, .int .u64 v] 39 (0, 0))] → Calls Try.prog 28 #[(.pointer (some ⟨x0, 0, none⟩)), .int .i64 x] w0 fun e w' => e = .returned (.int .i64 (puE k0 x)) ∧ Things W w' [X, Blk P (pcs (.pointer (some ⟨a, 0, none⟩)) (.pointer (some ⟨c0, 0, none⟩)) (.pointer (some ⟨c1, 0, none⟩)) (.pointer (some ⟨r, 0, none⟩)) (.pointer (some ⟨x0, 0, none⟩)) (.pointer (some ⟨x1, 0, none⟩))), Pc a (puB k0 bs x) (puT k0 ss x) [(c0, (puS k0 x)), (c1, k1)], Rf r (puB k0 bs x) (puT k0 ss x) [(x0, (puS k0 x)), (x1, k1)], Blk B (.cells #[.int .i64 1, .int .i64 x, .bool false, .int .u64 v] 39 (0, 0))]) := fun w0 h => y_push h 3 rfl (by omega) 0 rfl x
  have hok : k0.Ok bs.length := (show Things _ _ _ from h).ok 2 rfl 0 rfl
  have HL : Hid ((puB k0 bs x).length = bs.length ∧ (puT k0 ss x).length ≤ ss.length + 64) := ⟨puB_len hok x, by have := puT_len (k := k0) (ss := ss) x; omega⟩
  clear hok
  have HPR : Hid (k1.per = (puS k0 x).per) := by rw [per_pu]; exact hp
  clear h hk hp
  generalize (puE k0 x) = E at *
  generalize (puB k0 bs x) = bs2 at *
  generalize (puT k0 ss x) = ss2 at *
  generalize (puS k0 x) = k2 at *
  go_enter Try.func10, Try.ntmps10
  go_wp2_with fail
  go_region_held3 (fun w' => w'.cell? ⟨P, 1, none⟩ = some (.pointer (some ⟨c0, 0, none⟩)) ∧ w'.cell? ⟨P, 4, none⟩ = some (.pointer (some ⟨x0, 0, none⟩))) (first | exact ⟨by assumption, by assumption⟩ | go_keep) (fail)
  go_wp2_with fail
  go_region_held3 (fun w' => w'.cell? ⟨B, 1, none⟩ = some (.int .i64 x)) (first | exact (by assumption) | go_keep) (first | (go_at_call 17; refine (H1.out _ (T0.out.kept (((Fr.refl _ _).drew).drew))).mono ?_; rintro e w1 ⟨rfl, h1⟩; have T1 := hid h1; obtain ⟨s0, s1, s2, s3⟩ := ocell (h1.cells 4 rfl); clear h1) | (go_at_call 28; refine (H2.out _ T1.out).mono ?_; rintro e w2 ⟨rfl, h2⟩; have T2 := hid h2; obtain ⟨v0, v1, v2, v3⟩ := ocell (h2.cells 4 rfl); clear h2))
  go_wp2
  go_ret
  exact ⟨by simp, _, _, _, _, HL.out.1, HL.out.2, HPR.out, Things.less (ts := [_, _, _, _]) T2.out⟩
set_option maxRecDepth 20000 in
set_option maxHeartbeats 4000000 in
theorem done_5_0 {W w : World} {X : World → (Nat → Prop) → Prop} {P a r c0 c1 x0 x1 : Nat} {bs : List UInt8} {ss : List Sp} {k0 k1 : Ck} (h : PlayS W w X P a r c0 c1 x0 x1 bs ss k0 k1) (hp : k1.per = k0.per) (_hk : ss.length ≤ 800000) (x v : Int) (hx : x ≤ 9223372036854775807) : Calls Try.prog 10 #[.pointer (some ⟨P, 0, none⟩), .agg #[.int .i64 5, .int .i64 x, .bool false, .int .u64 v]] w fun e w' => e = .returned (.bool true) ∧ After W w' X P a r c0 c1 x0 x1 bs.length (ss.length + 64) := by
  have T0 : Hid (Things W (w.alloc (.cells #[.int .i64 5, .int .i64 x, .bool false, .int .u64 v] 39)) [X, Blk P (pcs (.pointer (some ⟨a, 0, none⟩)) (.pointer (some ⟨c0, 0, none⟩)) (.pointer (some ⟨c1, 0, none⟩)) (.pointer (some ⟨r, 0, none⟩)) (.pointer (some ⟨x0, 0, none⟩)) (.pointer (some ⟨x1, 0, none⟩))), Pc a bs ss [(c0, k0), (c1, k1)], Rf r bs ss [(x0, k0), (x1, k1)], Blk w.heap.size (.cells #[.int .i64 5, .int .i64 x, .bool false, .int .u64 v] 39 (0, 0))]) := Things.blk h _
  generalize hB : w.heap.size = B at T0
  obtain ⟨⟨q0, q1, q2⟩, ⟨q3, q4, q5⟩, _⟩ := pcell (T0.out.cells 1 rfl)
  obtain ⟨p0, p1, p2, p3⟩ := ocell (T0.out.cells 4 rfl)
  have H1 : Hid (∀ w0, Things W w0 [X, Blk P (pcs (.pointer (some ⟨a, 0, none⟩)) (.pointer (some ⟨c0, 0, none⟩)) (.pointer (some ⟨c1, 0, none⟩)) (.pointer (some ⟨r, 0, none⟩)) (.pointer (some ⟨x0, 0, none⟩)) (.pointer (some ⟨x1, 0, none⟩))), Pc a bs ss [(c0, k0), (c1, k1)], Rf r bs ss [(x0, k0), (x1, k1)], Blk B (.cells #[.int .i64 5, .int .i64 x, .bool false, .int .u64 v] 39 (0, 0))] → Calls Try.prog 22 #[(.pointer (some ⟨c0, 0, none⟩)), .int .i64 x] w0 fun e w' => e = .returned (.int .i64 (moE k0 bs.length x)) ∧ Things W w' [X, Blk P (pcs (.pointer (some ⟨a, 0, none⟩)) (.pointer (some ⟨c0, 0, none⟩)) (.pointer (some ⟨c1, 0, none⟩)) (.pointer (some ⟨r, 0, none⟩)) (.pointer (some ⟨x0, 0, none⟩)) (.pointer (some ⟨x1, 0, none⟩))), Pc a bs ss [(c0, (moS k0 bs.length x)), (c1, k1)], Rf r bs ss [(x0, k0), (x1, k1)], Blk B (.cells #[.int .i64 5, .int .i64 x, .bool false, .int .u64 v] 39 (0, 0))]) := fun w0 h => g_move h 2 rfl 0 rfl x hx
  have H2 : Hid (∀ w0, Things W w0 [X, Blk P (pcs (.pointer (some ⟨a, 0, none⟩)) (.pointer (some ⟨c0, 0, none⟩)) (.pointer (some ⟨c1, 0, none⟩)) (.pointer (some ⟨r, 0, none⟩)) (.pointer (some ⟨x0, 0, none⟩)) (.pointer (some ⟨x1, 0, none⟩))), Pc a bs ss [(c0, (moS k0 bs.length x)), (c1, k1)], Rf r bs ss [(x0, k0), (x1, k1)], Blk B (.cells #[.int .i64 5, .int .i64 x, .bool false, .int .u64 v] 39 (0, 0))] → Calls Try.prog 32 #[(.pointer (some ⟨x0, 0, none⟩)), .int .i64 x] w0 fun e w' => e = .returned (.int .i64 (moE k0 bs.length x)) ∧ Things W w' [X, Blk P (pcs (.pointer (some ⟨a, 0, none⟩)) (.pointer (some ⟨c0, 0, none⟩)) (.pointer (some ⟨c1, 0, none⟩)) (.pointer (some ⟨r, 0, none⟩)) (.pointer (some ⟨x0, 0, none⟩)) (.pointer (some ⟨x1, 0, none⟩))), Pc a bs ss [(c0, (moS k0 bs.length x)), (c1, k1)], Rf r bs ss [(x0, (moS k0 bs.length x)), (x1, k1)], Blk B (.cells #[.int .i64 5, .int .i64 x, .bool false, .int .u64 v] 39 (0, 0))]) := fun w0 h => y_move h 3 rfl 0 rfl x
  have HL : Hid (0 = 0 ∧ ss.length ≤ ss.length + 64) := ⟨rfl, by omega⟩
  have HPR : Hid (k1.per = (moS k0 bs.length x).per) := by rw [per_mo]; exact hp
  clear h _hk hp hx
  generalize (moE k0 bs.length x) = E at *
  generalize (moS k0 bs.length x) = k2 at *
  go_enter Try.func10, Try.ntmps10
  go_wp2_with fail
  go_region_held3 (fun w' => w'.cell? ⟨P, 1, none⟩ = some (.pointer (some ⟨c0, 0, none⟩)) ∧ w'.cell? ⟨P, 4, none⟩ = some (.pointer (some ⟨x0, 0, none⟩))) (first | exact ⟨by assumption, by assumption⟩ | go_keep) (fail)
  go_wp2_with fail
  go_region_held3 (fun w' => w'.cell? ⟨B, 1, none⟩ = some (.int .i64 x)) (first | exact (by assumption) | go_keep) (first | (go_at_call 22; refine (H1.out _ (T0.out.kept (((Fr.refl _ _).drew).drew))).mono ?_; rintro e w1 ⟨rfl, h1⟩; have T1 := hid h1; obtain ⟨s0, s1, s2, s3⟩ := ocell (h1.cells 4 rfl); clear h1) | (go_at_call 32; refine (H2.out _ T1.out).mono ?_; rintro e w2 ⟨rfl, h2⟩; have T2 := hid h2; obtain ⟨v0, v1, v2, v3⟩ := ocell (h2.cells 4 rfl); clear h2))
  go_wp2
  go_ret
  exact ⟨by simp, _, _, _, _, rfl, by omega, HPR.out, Things.less (ts := [_, _, _, _]) T2.out⟩
set_option maxRecDepth 20000 in
set_option maxHeartbeats 4000000 in
theorem done_2_0 {W w : World} {X : World → (Nat → Prop) → Prop} {P a r c0 c1 x0 x1 : Nat} {bs : List UInt8} {ss : List Sp} {k0 k1 : Ck} (h : PlayS W w X P a r c0 c1 x0 x1 bs ss k0 k1) (hp : k1.per = k0.per) (hk : ss.length ≤ 800000) (x v : Int) : Calls Try.prog 10 #[.pointer (some ⟨P, 0, none⟩), .agg #[.int .i64 2, .int .i64 x, .bool false, .int .u64 v]] w fun e w' => e = .returned (.bool true) ∧ After W w' X P a r c0 c1 x0 x1 bs.length (ss.length + 64) := by
  have T0 : Hid (Things W (w.alloc (.cells #[.int .i64 2, .int .i64 x, .bool false, .int .u64 v] 39)) [X, Blk P (pcs (.pointer (some ⟨a, 0, none⟩)) (.pointer (some ⟨c0, 0, none⟩)) (.pointer (some ⟨c1, 0, none⟩)) (.pointer (some ⟨r, 0, none⟩)) (.pointer (some ⟨x0, 0, none⟩)) (.pointer (some ⟨x1, 0, none⟩))), Pc a bs ss [(c0, k0), (c1, k1)], Rf r bs ss [(x0, k0), (x1, k1)], Blk w.heap.size (.cells #[.int .i64 2, .int .i64 x, .bool false, .int .u64 v] 39 (0, 0))]) := Things.blk h _
  generalize hB : w.heap.size = B at T0
  obtain ⟨⟨q0, q1, q2⟩, ⟨q3, q4, q5⟩, _⟩ := pcell (T0.out.cells 1 rfl)
  obtain ⟨p0, p1, p2, p3⟩ := ocell (T0.out.cells 4 rfl)
  have H1 : Hid (∀ w0, Things W w0 [X, Blk P (pcs (.pointer (some ⟨a, 0, none⟩)) (.pointer (some ⟨c0, 0, none⟩)) (.pointer (some ⟨c1, 0, none⟩)) (.pointer (some ⟨r, 0, none⟩)) (.pointer (some ⟨x0, 0, none⟩)) (.pointer (some ⟨x1, 0, none⟩))), Pc a bs ss [(c0, k0), (c1, k1)], Rf r bs ss [(x0, k0), (x1, k1)], Blk B (.cells #[.int .i64 2, .int .i64 x, .bool false, .int .u64 v] 39 (0, 0))] → Calls Try.prog 19 #[(.pointer (some ⟨c0, 0, none⟩))] w0 fun e w' => e = .returned (.tuple #[.int .i64 (poV k0 bs), .int .i64 (poE k0 bs)]) ∧ Things W w' [X, Blk P (pcs (.pointer (some ⟨a, 0, none⟩)) (.pointer (some ⟨c0, 0, none⟩)) (.pointer (some ⟨c1, 0, none⟩)) (.pointer (some ⟨r, 0, none⟩)) (.pointer (some ⟨x0, 0, none⟩)) (.pointer (some ⟨x1, 0, none⟩))), Pc a (poB k0 bs) (poT k0 bs ss) [(c0, (poS k0 bs)), (c1, k1)], Rf r bs ss [(x0, k0), (x1, k1)], Blk B (.cells #[.int .i64 2, .int .i64 x, .bool false, .int .u64 v] 39 (0, 0))]) := fun w0 h => g_pop h 2 rfl (by omega) 0 rfl
  have H2 : Hid (∀ w0, Things W w0 [X, Blk P (pcs (.pointer (some ⟨a, 0, none⟩)) (.pointer (some ⟨c0, 0, none⟩)) (.pointer (some ⟨c1, 0, none⟩)) (.pointer (some ⟨r, 0, none⟩)) (.pointer (some ⟨x0, 0, none⟩)) (.pointer (some ⟨x1, 0, none⟩))), Pc a (poB k0 bs) (poT k0 bs ss) [(c0, (poS k0 bs)), (c1, k1)], Rf r bs ss [(x0, k0), (x1, k1)], Blk B (.cells #[.int .i64 2, .int .i64 x, .bool false, .int .u64 v] 39 (0, 0))] → Calls Try.prog 29 #[(.pointer (some ⟨x0, 0, none⟩))] w0 fun e w' => e = .returned (.tuple #[.int .i64 (poV k0 bs), .int .i64 (poE k0 bs)]) ∧ Things W w' [X, Blk P (pcs (.pointer (some ⟨a, 0, none⟩)) (.pointer (some ⟨c0, 0, none⟩)) (.pointer (some ⟨c1, 0, none⟩)) (.pointer (some ⟨r, 0, none⟩)) (.pointer (some ⟨x0, 0, none⟩)) (.pointer (some ⟨x1, 0, none⟩))), Pc a (poB k0 bs) (poT k0 bs ss) [(c0, (poS k0 bs)), (c1, k1)], Rf r (poB k0 bs) (poT k0 bs ss) [(x0, (poS k0 bs)), (x1, k1)], Blk B (.cells #[.int .i64 2, .int .i64 x, .bool false, .int .u64 v] 39 (0, 0))]) := fun w0 h => y_pop h 3 rfl (by omega) 0 rfl
  have hok : k0.Ok bs.length := (show Things _ _ _ from h).ok 2 rfl 0 rfl
  have HL : Hid ((poB k0 bs).length = bs.length ∧ (poT k0 bs ss).length ≤ ss.length + 64) := ⟨poB_len hok, by have := poT_len (k := k0) (bs := bs) (ss := ss); omega⟩
  clear hok
  have HPR : Hid (k1.per = (poS k0 bs).per) := by rw [per_po]; exact hp
  clear h hk hp
  generalize poV k0 bs = V at *
  generalize poE k0 bs = E at *
  generalize (poB k0 bs) = bs2 at *
  generalize (poT k0 bs ss) = ss2 at *
  generalize (poS k0 bs) = k2 at *
  go_enter Try.func10, Try.ntmps10
  go_wp2_with fail
  go_region_held3 (fun w' => w'.cell? ⟨P, 1, none⟩ = some (.pointer (some ⟨c0, 0, none⟩)) ∧ w'.cell? ⟨P, 4, none⟩ = some (.pointer (some ⟨x0, 0, none⟩))) (first | exact ⟨by assumption, by assumption⟩ | go_keep) (fail)
  go_wp2_with fail
  refine (H1.out _ (T0.out.kept (Fr.refl _ _).drew)).mono ?_
  rintro e w1 ⟨rfl, h1⟩
  have T1 := hid h1
  clear h1 T0 H1
  go_wp2_with fail
  refine (H2.out _ T1.out).mono ?_
  rintro e w2 ⟨rfl, h2⟩
  have T2 := hid h2
  clear h2 T1 H2
  go_wp2
  go_ret
  exact ⟨by simp, _, _, _, _, HL.out.1, HL.out.2, HPR.out, Things.less (ts := [_, _, _, _]) T2.out⟩
set_option maxRecDepth 20000 in
set_option maxHeartbeats 4000000 in
theorem done_3_0 {W w : World} {X : World → (Nat → Prop) → Prop} {P a r c0 c1 x0 x1 : Nat} {bs : List UInt8} {ss : List Sp} {k0 k1 : Ck} (h : PlayS W w X P a r c0 c1 x0 x1 bs ss k0 k1) (hp : k1.per = k0.per) (hk : ss.length ≤ 800000) (x v : Int) : Calls Try.prog 10 #[.pointer (some ⟨P, 0, none⟩), .agg #[.int .i64 3, .int .i64 x, .bool false, .int .u64 v]] w fun e w' => e = .returned (.bool true) ∧ After W w' X P a r c0 c1 x0 x1 bs.length (ss.length + 64) := by
  have T0 : Hid (Things W (w.alloc (.cells #[.int .i64 3, .int .i64 x, .bool false, .int .u64 v] 39)) [X, Blk P (pcs (.pointer (some ⟨a, 0, none⟩)) (.pointer (some ⟨c0, 0, none⟩)) (.pointer (some ⟨c1, 0, none⟩)) (.pointer (some ⟨r, 0, none⟩)) (.pointer (some ⟨x0, 0, none⟩)) (.pointer (some ⟨x1, 0, none⟩))), Pc a bs ss [(c0, k0), (c1, k1)], Rf r bs ss [(x0, k0), (x1, k1)], Blk w.heap.size (.cells #[.int .i64 3, .int .i64 x, .bool false, .int .u64 v] 39 (0, 0))]) := Things.blk h _
  generalize hB : w.heap.size = B at T0
  obtain ⟨⟨q0, q1, q2⟩, ⟨q3, q4, q5⟩, _⟩ := pcell (T0.out.cells 1 rfl)
  obtain ⟨p0, p1, p2, p3⟩ := ocell (T0.out.cells 4 rfl)
  have H1 : Hid (∀ w0, Things W w0 [X, Blk P (pcs (.pointer (some ⟨a, 0, none⟩)) (.pointer (some ⟨c0, 0, none⟩)) (.pointer (some ⟨c1, 0, none⟩)) (.pointer (some ⟨r, 0, none⟩)) (.pointer (some ⟨x0, 0, none⟩)) (.pointer (some ⟨x1, 0, none⟩))), Pc a bs ss [(c0, k0), (c1, k1)], Rf r bs ss [(x0, k0), (x1, k1)], Blk B (.cells #[.int .i64 3, .int .i64 x, .bool false, .int .u64 v] 39 (0, 0))] → Calls Try.prog 18 #[(.pointer (some ⟨c0, 0, none⟩))] w0 fun e w' => ∃ ad1 cap1, e = .returned (.tuple #[.slice ad1 (nI (alL k0 bs)).length cap1, .int .i64 (alE k0 bs)]) ∧ Things W w' [X, Blk P (pcs (.pointer (some ⟨a, 0, none⟩)) (.pointer (some ⟨c0, 0, none⟩)) (.pointer (some ⟨c1, 0, none⟩)) (.pointer (some ⟨r, 0, none⟩)) (.pointer (some ⟨x0, 0, none⟩)) (.pointer (some ⟨x1, 0, none⟩))), Pc a bs (alT k0 bs ss) [(c0, k0), (c1, k1)], Rf r bs ss [(x0, k0), (x1, k1)], Blk B (.cells #[.int .i64 3, .int .i64 x, .bool false, .int .u64 v] 39 (0, 0)), Lv ad1 (nI (alL k0 bs))]) := fun w0 h => g_all h 2 rfl (by omega) 0 rfl
  have H2 : Hid (∀ w0 ad1, Things W w0 [X, Blk P (pcs (.pointer (some ⟨a, 0, none⟩)) (.pointer (some ⟨c0, 0, none⟩)) (.pointer (some ⟨c1, 0, none⟩)) (.pointer (some ⟨r, 0, none⟩)) (.pointer (some ⟨x0, 0, none⟩)) (.pointer (some ⟨x1, 0, none⟩))), Pc a bs (alT k0 bs ss) [(c0, k0), (c1, k1)], Rf r bs ss [(x0, k0), (x1, k1)], Blk B (.cells #[.int .i64 3, .int .i64 x, .bool false, .int .u64 v] 39 (0, 0)), Lv ad1 (nI (alL k0 bs))] → Calls Try.prog 30 #[(.pointer (some ⟨x0, 0, none⟩))] w0 fun e w' => ∃ ad2 cap2, e = .returned (.tuple #[.slice ad2 (nI (alL k0 bs)).length cap2, .int .i64 (alE k0 bs)]) ∧ Things W w' [X, Blk P (pcs (.pointer (some ⟨a, 0, none⟩)) (.pointer (some ⟨c0, 0, none⟩)) (.pointer (some ⟨c1, 0, none⟩)) (.pointer (some ⟨r, 0, none⟩)) (.pointer (some ⟨x0, 0, none⟩)) (.pointer (some ⟨x1, 0, none⟩))), Pc a bs (alT k0 bs ss) [(c0, k0), (c1, k1)], Rf r bs (alT k0 bs ss) [(x0, k0), (x1, k1)], Blk B (.cells #[.int .i64 3, .int .i64 x, .bool false, .int .u64 v] 39 (0, 0)), Lv ad1 (nI (alL k0 bs)), Lv ad2 (nI (alL k0 bs))]) := fun w0 ad1 h => y_all h 3 rfl (by omega) 0 rfl
  have hok : k0.Ok bs.length := (show Things _ _ _ from h).ok 2 rfl 0 rfl
  have HL : Hid ((alT k0 bs ss).length ≤ ss.length + 64) := alT_len hok
  have HAL : Hid ((nI (alL k0 bs)).length ≤ 1000) := by have := alL_len (bs := bs) hok; show _ ≤ _; rw [nI_length]; omega
  clear hok
  have H3 : Hid (∀ w0 ad1 ad2 d1 d2, Things W w0 [X, Blk P (pcs (.pointer (some ⟨a, 0, none⟩)) (.pointer (some ⟨c0, 0, none⟩)) (.pointer (some ⟨c1, 0, none⟩)) (.pointer (some ⟨r, 0, none⟩)) (.pointer (some ⟨x0, 0, none⟩)) (.pointer (some ⟨x1, 0, none⟩))), Pc a bs (alT k0 bs ss) [(c0, k0), (c1, k1)], Rf r bs (alT k0 bs ss) [(x0, k0), (x1, k1)], Blk B (.cells #[.int .i64 3, .int .i64 x, .bool false, .int .u64 v] 39 (0, 0)), Lv ad1 (nI (alL k0 bs)), Lv ad2 (nI (alL k0 bs))] → Calls Try.prog 24 #[.slice ad1 (nI (alL k0 bs)).length d1, .slice ad2 (nI (alL k0 bs)).length d2] w0 fun e w' => e = .returned (.bool true) ∧ Things W w' [X, Blk P (pcs (.pointer (some ⟨a, 0, none⟩)) (.pointer (some ⟨c0, 0, none⟩)) (.pointer (some ⟨c1, 0, none⟩)) (.pointer (some ⟨r, 0, none⟩)) (.pointer (some ⟨x0, 0, none⟩)) (.pointer (some ⟨x1, 0, none⟩))), Pc a bs (alT k0 bs ss) [(c0, k0), (c1, k1)], Rf r bs (alT k0 bs ss) [(x0, k0), (x1, k1)], Blk B (.cells #[.int .i64 3, .int .i64 x, .bool false, .int .u64 v] 39 (0, 0)), Lv ad1 (nI (alL k0 bs)), Lv ad2 (nI (alL k0 bs))]) := fun w0 ad1 ad2 d1 d2 h => (same_yes d1 d2 (h.nums 5 rfl) (h.nums 6 rfl) HAL.out).mono fun e w' ⟨he, f⟩ => ⟨he, h.kept f⟩
  have HPR := hid hp
  clear h hk hp HAL
  generalize alE k0 bs = E at *
  generalize (nI (alL k0 bs)) = ll at *
  generalize (alT k0 bs ss) = ss2 at *
  go_enter Try.func10, Try.ntmps10
  go_wp2_with fail
  go_region_held3 (fun w' => w'.cell? ⟨P, 1, none⟩ = some (.pointer (some ⟨c0, 0, none⟩)) ∧ w'.cell? ⟨P, 4, none⟩ = some (.pointer (some ⟨x0, 0, none⟩))) (first | exact ⟨by assumption, by assumption⟩ | go_keep) (fail)
  go_wp2_with fail
  refine (H1.out _ (T0.out.kept (Fr.refl _ _).drew)).mono ?_
  rintro e w1 ⟨ad1, cap1, rfl, h1⟩
  have T1 := hid h1
  clear h1 T0 H1
  go_wp2_with fail
  refine (H2.out _ _ T1.out).mono ?_
  rintro e w2 ⟨ad2, cap2, rfl, h2⟩
  have T2 := hid h2
  clear h2 T1 H2
  go_wp2_with fail
  refine (H3.out _ _ _ _ _ T2.out).mono ?_
  rintro e w3 ⟨rfl, h3⟩
  have T3 := hid h3
  clear h3 T2 H3
  go_wp2
  go_ret
  exact ⟨by simp, _, _, _, _, rfl, HL.out, HPR.out, Things.less (ts := [_, _, _, _]) (Things.less (ts := [_, _, _, _, _]) (Things.less (ts := [_, _, _, _, _, _]) T3.out))⟩
set_option maxRecDepth 20000 in
set_option maxHeartbeats 4000000 in
theorem done_4_0 {W w : World} {X : World → (Nat → Prop) → Prop} {P a r c0 c1 x0 x1 : Nat} {bs : List UInt8} {ss : List Sp} {k0 k1 : Ck} (h : PlayS W w X P a r c0 c1 x0 x1 bs ss k0 k1) (hp : k1.per = k0.per) (_hk : ss.length ≤ 800000) (x v : Int) : Calls Try.prog 10 #[.pointer (some ⟨P, 0, none⟩), .agg #[.int .i64 4, .int .i64 x, .bool false, .int .u64 v]] w fun e w' => e = .returned (.bool true) ∧ After W w' X P a r c0 c1 x0 x1 bs.length (ss.length + 64) := by
  have T0 : Hid (Things W (w.alloc (.cells #[.int .i64 4, .int .i64 x, .bool false, .int .u64 v] 39)) [X, Blk P (pcs (.pointer (some ⟨a, 0, none⟩)) (.pointer (some ⟨c0, 0, none⟩)) (.pointer (some ⟨c1, 0, none⟩)) (.pointer (some ⟨r, 0, none⟩)) (.pointer (some ⟨x0, 0, none⟩)) (.pointer (some ⟨x1, 0, none⟩))), Pc a bs ss [(c0, k0), (c1, k1)], Rf r bs ss [(x0, k0), (x1, k1)], Blk w.heap.size (.cells #[.int .i64 4, .int .i64 x, .bool false, .int .u64 v] 39 (0, 0))]) := Things.blk h _
  generalize hB : w.heap.size = B at T0
  obtain ⟨⟨q0, q1, q2⟩, ⟨q3, q4, q5⟩, _⟩ := pcell (T0.out.cells 1 rfl)
  obtain ⟨p0, p1, p2, p3⟩ := ocell (T0.out.cells 4 rfl)
  have H1 : Hid (∀ w0, Things W w0 [X, Blk P (pcs (.pointer (some ⟨a, 0, none⟩)) (.pointer (some ⟨c0, 0, none⟩)) (.pointer (some ⟨c1, 0, none⟩)) (.pointer (some ⟨r, 0, none⟩)) (.pointer (some ⟨x0, 0, none⟩)) (.pointer (some ⟨x1, 0, none⟩))), Pc a bs ss [(c0, k0), (c1, k1)], Rf r bs ss [(x0, k0), (x1, k1)], Blk B (.cells #[.int .i64 4, .int .i64 x, .bool false, .int .u64 v] 39 (0, 0))] → Calls Try.prog 21 #[(.pointer (some ⟨c0, 0, none⟩)), (.pointer (some ⟨c1, 0, none⟩))] w0 fun e w' => e = .returned (.int .i64 (taE k0)) ∧ Things W w' [X, Blk P (pcs (.pointer (some ⟨a, 0, none⟩)) (.pointer (some ⟨c0, 0, none⟩)) (.pointer (some ⟨c1, 0, none⟩)) (.pointer (some ⟨r, 0, none⟩)) (.pointer (some ⟨x0, 0, none⟩)) (.pointer (some ⟨x1, 0, none⟩))), Pc a bs ss [(c0, (taS k0 k1)), (c1, (taD k0 k1))], Rf r bs ss [(x0, k0), (x1, k1)], Blk B (.cells #[.int .i64 4, .int .i64 x, .bool false, .int .u64 v] 39 (0, 0))]) := fun w0 h => g_take h 2 rfl (i := 0) (j := 1) (by omega) rfl rfl hp
  have H2 : Hid (∀ w0, Things W w0 [X, Blk P (pcs (.pointer (some ⟨a, 0, none⟩)) (.pointer (some ⟨c0, 0, none⟩)) (.pointer (some ⟨c1, 0, none⟩)) (.pointer (some ⟨r, 0, none⟩)) (.pointer (some ⟨x0, 0, none⟩)) (.pointer (some ⟨x1, 0, none⟩))), Pc a bs ss [(c0, (taS k0 k1)), (c1, (taD k0 k1))], Rf r bs ss [(x0, k0), (x1, k1)], Blk B (.cells #[.int .i64 4, .int .i64 x, .bool false, .int .u64 v] 39 (0, 0))] → Calls Try.prog 31 #[(.pointer (some ⟨x0, 0, none⟩)), (.pointer (some ⟨x1, 0, none⟩))] w0 fun e w' => e = .returned (.int .i64 (taE k0)) ∧ Things W w' [X, Blk P (pcs (.pointer (some ⟨a, 0, none⟩)) (.pointer (some ⟨c0, 0, none⟩)) (.pointer (some ⟨c1, 0, none⟩)) (.pointer (some ⟨r, 0, none⟩)) (.pointer (some ⟨x0, 0, none⟩)) (.pointer (some ⟨x1, 0, none⟩))), Pc a bs ss [(c0, (taS k0 k1)), (c1, (taD k0 k1))], Rf r bs ss [(x0, (taS k0 k1)), (x1, (taD k0 k1))], Blk B (.cells #[.int .i64 4, .int .i64 x, .bool false, .int .u64 v] 39 (0, 0))]) := fun w0 h => y_take h 3 rfl (i := 0) (j := 1) (by omega) rfl rfl hp
  have HPR : Hid ((taD k0 k1).per = (taS k0 k1).per) := by show _ = _; rw [(per_ta k0 k1).2, (per_ta k0 k1).1]; exact hp
  have HL : Hid (ss.length ≤ ss.length + 64) := (by omega : ss.length ≤ ss.length + 64)
  have wa : IntKind.i64.wrap (1 - 0) = 1 := by decide
  have wb : IntKind.i64.wrap 1 = 1 := by decide
  clear h _hk hp
  generalize taE k0 = E at *
  generalize (taS k0 k1) = m0 at *
  generalize (taD k0 k1) = m1 at *
  go_enter Try.func10, Try.ntmps10
  go_wp2_with fail
  go_region_held3 (fun w' => w'.cell? ⟨P, 1, none⟩ = some (.pointer (some ⟨c0, 0, none⟩)) ∧ w'.cell? ⟨P, 4, none⟩ = some (.pointer (some ⟨x0, 0, none⟩))) (first | exact ⟨by assumption, by assumption⟩ | go_keep) (fail)
  go_wp2_with fail
  go_region_held3 (fun w' => w'.cell? ⟨P, 2, none⟩ = some (.pointer (some ⟨c1, 0, none⟩)) ∧ w'.cell? ⟨P, 5, none⟩ = some (.pointer (some ⟨x1, 0, none⟩))) (first | exact ⟨by assumption, by assumption⟩ | go_keep) (first | (go_at_call 21; refine (H1.out _ (T0.out.kept (((Fr.refl _ _).drew).drew))).mono ?_; rintro e w1 ⟨rfl, h1⟩; have T1 := hid h1; obtain ⟨⟨s0, s1, s2⟩, ⟨s3, s4, s5⟩, _⟩ := pcell (h1.cells 1 rfl); clear h1) | (go_at_call 31; refine (H2.out _ T1.out).mono ?_; rintro e w2 ⟨rfl, h2⟩; have T2 := hid h2; obtain ⟨⟨v0, v1, v2⟩, ⟨v3, v4, v5⟩, _⟩ := pcell (h2.cells 1 rfl); clear h2))
  go_wp2
  go_ret
  exact ⟨by simp, _, _, _, _, rfl, HL.out, HPR.out, Things.less (ts := [_, _, _, _]) T2.out⟩
set_option maxRecDepth 20000 in
set_option maxHeartbeats 4000000 in
theorem done_6_0 {W w : World} {X : World → (Nat → Prop) → Prop} {P a r c0 c1 x0 x1 : Nat} {bs : List UInt8} {ss : List Sp} {k0 k1 : Ck} (h : PlayS W w X P a r c0 c1 x0 x1 bs ss k0 k1) (hp : k1.per = k0.per) (hk : ss.length ≤ 800000) (x v : Int) (hx : x ≤ 9223372036854775807) (hv : 0 ≤ v ∧ v ≤ 18446744073709551615) : Calls Try.prog 10 #[.pointer (some ⟨P, 0, none⟩), .agg #[.int .i64 6, .int .i64 x, .bool false, .int .u64 v]] w fun e w' => e = .returned (.bool true) ∧ After W w' X P a r c0 c1 x0 x1 bs.length (ss.length + 64) := by
  have T0 : Hid (Things W (w.alloc (.cells #[.int .i64 6, .int .i64 x, .bool false, .int .u64 v] 39)) [X, Blk P (pcs (.pointer (some ⟨a, 0, none⟩)) (.pointer (some ⟨c0, 0, none⟩)) (.pointer (some ⟨c1, 0, none⟩)) (.pointer (some ⟨r, 0, none⟩)) (.pointer (some ⟨x0, 0, none⟩)) (.pointer (some ⟨x1, 0, none⟩))), Pc a bs ss [(c0, k0), (c1, k1)], Rf r bs ss [(x0, k0), (x1, k1)], Blk w.heap.size (.cells #[.int .i64 6, .int .i64 x, .bool false, .int .u64 v] 39 (0, 0))]) := Things.blk h _
  generalize hB : w.heap.size = B at T0
  obtain ⟨⟨q0, q1, q2⟩, ⟨q3, q4, q5⟩, _⟩ := pcell (T0.out.cells 1 rfl)
  obtain ⟨p0, p1, p2, p3⟩ := ocell (T0.out.cells 4 rfl)
  have H1 : Hid (∀ w0, Things W w0 [X, Blk P (pcs (.pointer (some ⟨a, 0, none⟩)) (.pointer (some ⟨c0, 0, none⟩)) (.pointer (some ⟨c1, 0, none⟩)) (.pointer (some ⟨r, 0, none⟩)) (.pointer (some ⟨x0, 0, none⟩)) (.pointer (some ⟨x1, 0, none⟩))), Pc a bs ss [(c0, k0), (c1, k1)], Rf r bs ss [(x0, k0), (x1, k1)], Blk B (.cells #[.int .i64 6, .int .i64 x, .bool false, .int .u64 v] 39 (0, 0))] → Calls Try.prog 33 #[(.pointer (some ⟨a, 0, none⟩)), .int .i64 x, .int .u64 v] w0 fun e w' => e = .returned (.int .i64 (errE (inB x 8 bs.length))) ∧ Things W w' [X, Blk P (pcs (.pointer (some ⟨a, 0, none⟩)) (.pointer (some ⟨c0, 0, none⟩)) (.pointer (some ⟨c1, 0, none⟩)) (.pointer (some ⟨r, 0, none⟩)) (.pointer (some ⟨x0, 0, none⟩)) (.pointer (some ⟨x1, 0, none⟩))), Pc a (layB (inB x 8 bs.length) bs x (leb v.toNat 8)) (notS (inB x 8 bs.length) ss x 8 true) [(c0, k0), (c1, k1)], Rf r bs ss [(x0, k0), (x1, k1)], Blk B (.cells #[.int .i64 6, .int .i64 x, .bool false, .int .u64 v] 39 (0, 0))]) := fun w0 h => g_put h 2 rfl x v hx hv.1 hv.2 (by omega)
  have H2 : Hid (∀ w0, Things W w0 [X, Blk P (pcs (.pointer (some ⟨a, 0, none⟩)) (.pointer (some ⟨c0, 0, none⟩)) (.pointer (some ⟨c1, 0, none⟩)) (.pointer (some ⟨r, 0, none⟩)) (.pointer (some ⟨x0, 0, none⟩)) (.pointer (some ⟨x1, 0, none⟩))), Pc a (layB (inB x 8 bs.length) bs x (leb v.toNat 8)) (notS (inB x 8 bs.length) ss x 8 true) [(c0, k0), (c1, k1)], Rf r bs ss [(x0, k0), (x1, k1)], Blk B (.cells #[.int .i64 6, .int .i64 x, .bool false, .int .u64 v] 39 (0, 0))] → Calls Try.prog 34 #[(.pointer (some ⟨r, 0, none⟩)), .int .i64 x, .int .u64 v] w0 fun e w' => e = .returned (.int .i64 (errE (inB x 8 bs.length))) ∧ Things W w' [X, Blk P (pcs (.pointer (some ⟨a, 0, none⟩)) (.pointer (some ⟨c0, 0, none⟩)) (.pointer (some ⟨c1, 0, none⟩)) (.pointer (some ⟨r, 0, none⟩)) (.pointer (some ⟨x0, 0, none⟩)) (.pointer (some ⟨x1, 0, none⟩))), Pc a (layB (inB x 8 bs.length) bs x (leb v.toNat 8)) (notS (inB x 8 bs.length) ss x 8 true) [(c0, k0), (c1, k1)], Rf r (layB (inB x 8 bs.length) bs x (leb v.toNat 8)) (notS (inB x 8 bs.length) ss x 8 true) [(x0, k0), (x1, k1)], Blk B (.cells #[.int .i64 6, .int .i64 x, .bool false, .int .u64 v] 39 (0, 0))]) := fun w0 h => y_put h 3 rfl x v hx hv.1 hv.2 (by omega)
  have HL : Hid ((layB (inB x 8 bs.length) bs x (leb v.toNat 8)).length = bs.length ∧ (notS (inB x 8 bs.length) ss x 8 true).length ≤ ss.length + 64) := ⟨layB_length _ _ _ _ fun e => by rw [inB_true] at e; rw [leb_length]; omega, by have := notS_le (inB x 8 bs.length) ss x 8 true; omega⟩
  have HPR := hid hp
  clear h hk hp hx hv
  generalize (errE (inB x 8 bs.length)) = E at *
  generalize (layB (inB x 8 bs.length) bs x (leb v.toNat 8)) = bs2 at *
  generalize (notS (inB x 8 bs.length) ss x 8 true) = ss2 at *
  go_enter Try.func10, Try.ntmps10
  go_wp2_with fail
  go_region_held3 (fun w' => w'.cell? ⟨P, 1, none⟩ = some (.pointer (some ⟨c0, 0, none⟩)) ∧ w'.cell? ⟨P, 4, none⟩ = some (.pointer (some ⟨x0, 0, none⟩))) (first | exact ⟨by assumption, by assumption⟩ | go_keep) (fail)
  go_wp2_with fail
  go_region_held3 (fun w' => w'.cell? ⟨P, 0, none⟩ = some (.pointer (some ⟨a, 0, none⟩)) ∧ w'.cell? ⟨P, 3, none⟩ = some (.pointer (some ⟨r, 0, none⟩)) ∧ w'.cell? ⟨B, 1, none⟩ = some (.int .i64 x) ∧ w'.cell? ⟨B, 3, none⟩ = some (.int .u64 v)) (first | exact ⟨by assumption, by assumption, by assumption, by assumption⟩ | go_keep) (first | (go_at_call 33; refine (H1.out _ (T0.out.kept (((Fr.refl _ _).drew).drew))).mono ?_; rintro e w1 ⟨rfl, h1⟩; have T1 := hid h1; obtain ⟨⟨s0, s1, s2⟩, ⟨s3, s4, s5⟩, _⟩ := pcell (h1.cells 1 rfl); obtain ⟨t0, t1, t2, t3⟩ := ocell (h1.cells 4 rfl); clear h1) | (go_at_call 34; refine (H2.out _ T1.out).mono ?_; rintro e w2 ⟨rfl, h2⟩; have T2 := hid h2; obtain ⟨⟨v0, v1, v2⟩, ⟨v3, v4, v5⟩, _⟩ := pcell (h2.cells 1 rfl); obtain ⟨z0, z1, z2, z3⟩ := ocell (h2.cells 4 rfl); clear h2))
  go_wp2
  go_ret
  exact ⟨by simp, _, _, _, _, HL.out.1, HL.out.2, HPR.out, Things.less (ts := [_, _, _, _]) T2.out⟩
set_option maxRecDepth 20000 in
set_option maxHeartbeats 4000000 in
theorem done_n_0 {W w : World} {X : World → (Nat → Prop) → Prop} {P a r c0 c1 x0 x1 : Nat} {bs : List UInt8} {ss : List Sp} {k0 k1 : Ck} (h : PlayS W w X P a r c0 c1 x0 x1 bs ss k0 k1) (hp : k1.per = k0.per) (_hk : ss.length ≤ 800000) {kd : Int} (hkd : ∀ i : Int, 1 ≤ i → i ≤ 6 → kd ≠ i) (x v : Int) : Calls Try.prog 10 #[.pointer (some ⟨P, 0, none⟩), .agg #[.int .i64 kd, .int .i64 x, .bool false, .int .u64 v]] w fun e w' => e = .returned (.bool true) ∧ After W w' X P a r c0 c1 x0 x1 bs.length (ss.length + 64) := by
  have T0 : Hid (Things W (w.alloc (.cells #[.int .i64 kd, .int .i64 x, .bool false, .int .u64 v] 39)) [X, Blk P (pcs (.pointer (some ⟨a, 0, none⟩)) (.pointer (some ⟨c0, 0, none⟩)) (.pointer (some ⟨c1, 0, none⟩)) (.pointer (some ⟨r, 0, none⟩)) (.pointer (some ⟨x0, 0, none⟩)) (.pointer (some ⟨x1, 0, none⟩))), Pc a bs ss [(c0, k0), (c1, k1)], Rf r bs ss [(x0, k0), (x1, k1)], Blk w.heap.size (.cells #[.int .i64 kd, .int .i64 x, .bool false, .int .u64 v] 39 (0, 0))]) := Things.blk h _
  generalize hB : w.heap.size = B at T0
  obtain ⟨⟨q0, q1, q2⟩, ⟨q3, q4, q5⟩, _⟩ := pcell (T0.out.cells 1 rfl)
  obtain ⟨p0, p1, p2, p3⟩ := ocell (T0.out.cells 4 rfl)
  have HPR := hid hp
  have e1 := hkd 1 (by omega) (by omega)
  have e2 := hkd 2 (by omega) (by omega)
  have e3 := hkd 3 (by omega) (by omega)
  have e4 := hkd 4 (by omega) (by omega)
  have e5 := hkd 5 (by omega) (by omega)
  have e6 := hkd 6 (by omega) (by omega)
  clear h _hk hp hkd
  go_enter Try.func10, Try.ntmps10
  go_wp2_with fail
  go_region_held3 (fun w' => w'.cell? ⟨P, 1, none⟩ = some (.pointer (some ⟨c0, 0, none⟩)) ∧ w'.cell? ⟨P, 4, none⟩ = some (.pointer (some ⟨x0, 0, none⟩))) (first | exact ⟨by assumption, by assumption⟩ | go_keep) (fail)
  go_wp2
  go_ret
  exact ⟨by simp, _, _, _, _, rfl, by omega, HPR.out, Things.less (ts := [_, _, _, _]) (T0.out.kept (Fr.refl _ _).drew)⟩
set_option maxRecDepth 20000 in
set_option maxHeartbeats 4000000 in
theorem done_1_1 {W w : World} {X : World → (Nat → Prop) → Prop} {P a r c0 c1 x0 x1 : Nat} {bs : List UInt8} {ss : List Sp} {k0 k1 : Ck} (h : PlayS W w X P a r c0 c1 x0 x1 bs ss k0 k1) (hp : k1.per = k0.per) (hk : ss.length ≤ 800000) (x v : Int) : Calls Try.prog 10 #[.pointer (some ⟨P, 0, none⟩), .agg #[.int .i64 1, .int .i64 x, .bool true, .int .u64 v]] w fun e w' => e = .returned (.bool true) ∧ After W w' X P a r c0 c1 x0 x1 bs.length (ss.length + 64) := by
  have T0 : Hid (Things W (w.alloc (.cells #[.int .i64 1, .int .i64 x, .bool true, .int .u64 v] 39)) [X, Blk P (pcs (.pointer (some ⟨a, 0, none⟩)) (.pointer (some ⟨c0, 0, none⟩)) (.pointer (some ⟨c1, 0, none⟩)) (.pointer (some ⟨r, 0, none⟩)) (.pointer (some ⟨x0, 0, none⟩)) (.pointer (some ⟨x1, 0, none⟩))), Pc a bs ss [(c0, k0), (c1, k1)], Rf r bs ss [(x0, k0), (x1, k1)], Blk w.heap.size (.cells #[.int .i64 1, .int .i64 x, .bool true, .int .u64 v] 39 (0, 0))]) := Things.blk h _
  generalize hB : w.heap.size = B at T0
  obtain ⟨⟨q0, q1, q2⟩, ⟨q3, q4, q5⟩, _⟩ := pcell (T0.out.cells 1 rfl)
  obtain ⟨p0, p1, p2, p3⟩ := ocell (T0.out.cells 4 rfl)
  have H1 : Hid (∀ w0, Things W w0 [X, Blk P (pcs (.pointer (some ⟨a, 0, none⟩)) (.pointer (some ⟨c0, 0, none⟩)) (.pointer (some ⟨c1, 0, none⟩)) (.pointer (some ⟨r, 0, none⟩)) (.pointer (some ⟨x0, 0, none⟩)) (.pointer (some ⟨x1, 0, none⟩))), Pc a bs ss [(c0, k0), (c1, k1)], Rf r bs ss [(x0, k0), (x1, k1)], Blk B (.cells #[.int .i64 1, .int .i64 x, .bool true, .int .u64 v] 39 (0, 0))] → Calls Try.prog 17 #[(.pointer (some ⟨c1, 0, none⟩)), .int .i64 x] w0 fun e w' => e = .returned (.int .i64 (puE k1 x)) ∧ Things W w' [X, Blk P (pcs (.pointer (some ⟨a, 0, none⟩)) (.pointer (some ⟨c0, 0, none⟩)) (.pointer (some ⟨c1, 0, none⟩)) (.pointer (some ⟨r, 0, none⟩)) (.pointer (some ⟨x0, 0, none⟩)) (.pointer (some ⟨x1, 0, none⟩))), Pc a (puB k1 bs x) (puT k1 ss x) [(c0, k0), (c1, (puS k1 x))], Rf r bs ss [(x0, k0), (x1, k1)], Blk B (.cells #[.int .i64 1, .int .i64 x, .bool true, .int .u64 v] 39 (0, 0))]) := fun w0 h => g_push h 2 rfl (by omega) 1 rfl x
  have H2 : Hid (∀ w0, Things W w0 [X, Blk P (pcs (.pointer (some ⟨a, 0, none⟩)) (.pointer (some ⟨c0, 0, none⟩)) (.pointer (some ⟨c1, 0, none⟩)) (.pointer (some ⟨r, 0, none⟩)) (.pointer (some ⟨x0, 0, none⟩)) (.pointer (some ⟨x1, 0, none⟩))), Pc a (puB k1 bs x) (puT k1 ss x) [(c0, k0), (c1, (puS k1 x))], Rf r bs ss [(x0, k0), (x1, k1)], Blk B (.cells #[.int .i64 1, .int .i64 x, .bool true, .int .u64 v] 39 (0, 0))] → Calls Try.prog 28 #[(.pointer (some ⟨x1, 0, none⟩)), .int .i64 x] w0 fun e w' => e = .returned (.int .i64 (puE k1 x)) ∧ Things W w' [X, Blk P (pcs (.pointer (some ⟨a, 0, none⟩)) (.pointer (some ⟨c0, 0, none⟩)) (.pointer (some ⟨c1, 0, none⟩)) (.pointer (some ⟨r, 0, none⟩)) (.pointer (some ⟨x0, 0, none⟩)) (.pointer (some ⟨x1, 0, none⟩))), Pc a (puB k1 bs x) (puT k1 ss x) [(c0, k0), (c1, (puS k1 x))], Rf r (puB k1 bs x) (puT k1 ss x) [(x0, k0), (x1, (puS k1 x))], Blk B (.cells #[.int .i64 1, .int .i64 x, .bool true, .int .u64 v] 39 (0, 0))]) := fun w0 h => y_push h 3 rfl (by omega) 1 rfl x
  have hok : k1.Ok bs.length := (show Things _ _ _ from h).ok 2 rfl 1 rfl
  have HL : Hid ((puB k1 bs x).length = bs.length ∧ (puT k1 ss x).length ≤ ss.length + 64) := ⟨puB_len hok x, by have := puT_len (k := k1) (ss := ss) x; omega⟩
  clear hok
  have HPR : Hid ((puS k1 x).per = k0.per) := by rw [per_pu]; exact hp
  clear h hk hp
  generalize (puE k1 x) = E at *
  generalize (puB k1 bs x) = bs2 at *
  generalize (puT k1 ss x) = ss2 at *
  generalize (puS k1 x) = k2 at *
  go_enter Try.func10, Try.ntmps10
  go_wp2_with fail
  go_region_held3 (fun w' => w'.cell? ⟨P, 2, none⟩ = some (.pointer (some ⟨c1, 0, none⟩)) ∧ w'.cell? ⟨P, 5, none⟩ = some (.pointer (some ⟨x1, 0, none⟩))) (first | exact ⟨by assumption, by assumption⟩ | go_keep) (fail)
  go_wp2_with fail
  go_region_held3 (fun w' => w'.cell? ⟨B, 1, none⟩ = some (.int .i64 x)) (first | exact (by assumption) | go_keep) (first | (go_at_call 17; refine (H1.out _ (T0.out.kept (((Fr.refl _ _).drew).drew))).mono ?_; rintro e w1 ⟨rfl, h1⟩; have T1 := hid h1; obtain ⟨s0, s1, s2, s3⟩ := ocell (h1.cells 4 rfl); clear h1) | (go_at_call 28; refine (H2.out _ T1.out).mono ?_; rintro e w2 ⟨rfl, h2⟩; have T2 := hid h2; obtain ⟨v0, v1, v2, v3⟩ := ocell (h2.cells 4 rfl); clear h2))
  go_wp2
  go_ret
  exact ⟨by simp, _, _, _, _, HL.out.1, HL.out.2, HPR.out, Things.less (ts := [_, _, _, _]) T2.out⟩
set_option maxRecDepth 20000 in
set_option maxHeartbeats 4000000 in
theorem done_5_1 {W w : World} {X : World → (Nat → Prop) → Prop} {P a r c0 c1 x0 x1 : Nat} {bs : List UInt8} {ss : List Sp} {k0 k1 : Ck} (h : PlayS W w X P a r c0 c1 x0 x1 bs ss k0 k1) (hp : k1.per = k0.per) (_hk : ss.length ≤ 800000) (x v : Int) (hx : x ≤ 9223372036854775807) : Calls Try.prog 10 #[.pointer (some ⟨P, 0, none⟩), .agg #[.int .i64 5, .int .i64 x, .bool true, .int .u64 v]] w fun e w' => e = .returned (.bool true) ∧ After W w' X P a r c0 c1 x0 x1 bs.length (ss.length + 64) := by
  have T0 : Hid (Things W (w.alloc (.cells #[.int .i64 5, .int .i64 x, .bool true, .int .u64 v] 39)) [X, Blk P (pcs (.pointer (some ⟨a, 0, none⟩)) (.pointer (some ⟨c0, 0, none⟩)) (.pointer (some ⟨c1, 0, none⟩)) (.pointer (some ⟨r, 0, none⟩)) (.pointer (some ⟨x0, 0, none⟩)) (.pointer (some ⟨x1, 0, none⟩))), Pc a bs ss [(c0, k0), (c1, k1)], Rf r bs ss [(x0, k0), (x1, k1)], Blk w.heap.size (.cells #[.int .i64 5, .int .i64 x, .bool true, .int .u64 v] 39 (0, 0))]) := Things.blk h _
  generalize hB : w.heap.size = B at T0
  obtain ⟨⟨q0, q1, q2⟩, ⟨q3, q4, q5⟩, _⟩ := pcell (T0.out.cells 1 rfl)
  obtain ⟨p0, p1, p2, p3⟩ := ocell (T0.out.cells 4 rfl)
  have H1 : Hid (∀ w0, Things W w0 [X, Blk P (pcs (.pointer (some ⟨a, 0, none⟩)) (.pointer (some ⟨c0, 0, none⟩)) (.pointer (some ⟨c1, 0, none⟩)) (.pointer (some ⟨r, 0, none⟩)) (.pointer (some ⟨x0, 0, none⟩)) (.pointer (some ⟨x1, 0, none⟩))), Pc a bs ss [(c0, k0), (c1, k1)], Rf r bs ss [(x0, k0), (x1, k1)], Blk B (.cells #[.int .i64 5, .int .i64 x, .bool true, .int .u64 v] 39 (0, 0))] → Calls Try.prog 22 #[(.pointer (some ⟨c1, 0, none⟩)), .int .i64 x] w0 fun e w' => e = .returned (.int .i64 (moE k1 bs.length x)) ∧ Things W w' [X, Blk P (pcs (.pointer (some ⟨a, 0, none⟩)) (.pointer (some ⟨c0, 0, none⟩)) (.pointer (some ⟨c1, 0, none⟩)) (.pointer (some ⟨r, 0, none⟩)) (.pointer (some ⟨x0, 0, none⟩)) (.pointer (some ⟨x1, 0, none⟩))), Pc a bs ss [(c0, k0), (c1, (moS k1 bs.length x))], Rf r bs ss [(x0, k0), (x1, k1)], Blk B (.cells #[.int .i64 5, .int .i64 x, .bool true, .int .u64 v] 39 (0, 0))]) := fun w0 h => g_move h 2 rfl 1 rfl x hx
  have H2 : Hid (∀ w0, Things W w0 [X, Blk P (pcs (.pointer (some ⟨a, 0, none⟩)) (.pointer (some ⟨c0, 0, none⟩)) (.pointer (some ⟨c1, 0, none⟩)) (.pointer (some ⟨r, 0, none⟩)) (.pointer (some ⟨x0, 0, none⟩)) (.pointer (some ⟨x1, 0, none⟩))), Pc a bs ss [(c0, k0), (c1, (moS k1 bs.length x))], Rf r bs ss [(x0, k0), (x1, k1)], Blk B (.cells #[.int .i64 5, .int .i64 x, .bool true, .int .u64 v] 39 (0, 0))] → Calls Try.prog 32 #[(.pointer (some ⟨x1, 0, none⟩)), .int .i64 x] w0 fun e w' => e = .returned (.int .i64 (moE k1 bs.length x)) ∧ Things W w' [X, Blk P (pcs (.pointer (some ⟨a, 0, none⟩)) (.pointer (some ⟨c0, 0, none⟩)) (.pointer (some ⟨c1, 0, none⟩)) (.pointer (some ⟨r, 0, none⟩)) (.pointer (some ⟨x0, 0, none⟩)) (.pointer (some ⟨x1, 0, none⟩))), Pc a bs ss [(c0, k0), (c1, (moS k1 bs.length x))], Rf r bs ss [(x0, k0), (x1, (moS k1 bs.length x))], Blk B (.cells #[.int .i64 5, .int .i64 x, .bool true, .int .u64 v] 39 (0, 0))]) := fun w0 h => y_move h 3 rfl 1 rfl x
  have HL : Hid (0 = 0 ∧ ss.length ≤ ss.length + 64) := ⟨rfl, by omega⟩
  have HPR : Hid ((moS k1 bs.length x).per = k0.per) := by rw [per_mo]; exact hp
  clear h _hk hp hx
  generalize (moE k1 bs.length x) = E at *
  generalize (moS k1 bs.length x) = k2 at *
  go_enter Try.func10, Try.ntmps10
  go_wp2_with fail
  go_region_held3 (fun w' => w'.cell? ⟨P, 2, none⟩ = some (.pointer (some ⟨c1, 0, none⟩)) ∧ w'.cell? ⟨P, 5, none⟩ = some (.pointer (some ⟨x1, 0, none⟩))) (first | exact ⟨by assumption, by assumption⟩ | go_keep) (fail)
  go_wp2_with fail
  go_region_held3 (fun w' => w'.cell? ⟨B, 1, none⟩ = some (.int .i64 x)) (first | exact (by assumption) | go_keep) (first | (go_at_call 22; refine (H1.out _ (T0.out.kept (((Fr.refl _ _).drew).drew))).mono ?_; rintro e w1 ⟨rfl, h1⟩; have T1 := hid h1; obtain ⟨s0, s1, s2, s3⟩ := ocell (h1.cells 4 rfl); clear h1) | (go_at_call 32; refine (H2.out _ T1.out).mono ?_; rintro e w2 ⟨rfl, h2⟩; have T2 := hid h2; obtain ⟨v0, v1, v2, v3⟩ := ocell (h2.cells 4 rfl); clear h2))
  go_wp2
  go_ret
  exact ⟨by simp, _, _, _, _, rfl, by omega, HPR.out, Things.less (ts := [_, _, _, _]) T2.out⟩
set_option maxRecDepth 20000 in
set_option maxHeartbeats 4000000 in
theorem done_2_1 {W w : World} {X : World → (Nat → Prop) → Prop} {P a r c0 c1 x0 x1 : Nat} {bs : List UInt8} {ss : List Sp} {k0 k1 : Ck} (h : PlayS W w X P a r c0 c1 x0 x1 bs ss k0 k1) (hp : k1.per = k0.per) (hk : ss.length ≤ 800000) (x v : Int) : Calls Try.prog 10 #[.pointer (some ⟨P, 0, none⟩), .agg #[.int .i64 2, .int .i64 x, .bool true, .int .u64 v]] w fun e w' => e = .returned (.bool true) ∧ After W w' X P a r c0 c1 x0 x1 bs.length (ss.length + 64) := by
  have T0 : Hid (Things W (w.alloc (.cells #[.int .i64 2, .int .i64 x, .bool true, .int .u64 v] 39)) [X, Blk P (pcs (.pointer (some ⟨a, 0, none⟩)) (.pointer (some ⟨c0, 0, none⟩)) (.pointer (some ⟨c1, 0, none⟩)) (.pointer (some ⟨r, 0, none⟩)) (.pointer (some ⟨x0, 0, none⟩)) (.pointer (some ⟨x1, 0, none⟩))), Pc a bs ss [(c0, k0), (c1, k1)], Rf r bs ss [(x0, k0), (x1, k1)], Blk w.heap.size (.cells #[.int .i64 2, .int .i64 x, .bool true, .int .u64 v] 39 (0, 0))]) := Things.blk h _
  generalize hB : w.heap.size = B at T0
  obtain ⟨⟨q0, q1, q2⟩, ⟨q3, q4, q5⟩, _⟩ := pcell (T0.out.cells 1 rfl)
  obtain ⟨p0, p1, p2, p3⟩ := ocell (T0.out.cells 4 rfl)
  have H1 : Hid (∀ w0, Things W w0 [X, Blk P (pcs (.pointer (some ⟨a, 0, none⟩)) (.pointer (some ⟨c0, 0, none⟩)) (.pointer (some ⟨c1, 0, none⟩)) (.pointer (some ⟨r, 0, none⟩)) (.pointer (some ⟨x0, 0, none⟩)) (.pointer (some ⟨x1, 0, none⟩))), Pc a bs ss [(c0, k0), (c1, k1)], Rf r bs ss [(x0, k0), (x1, k1)], Blk B (.cells #[.int .i64 2, .int .i64 x, .bool true, .int .u64 v] 39 (0, 0))] → Calls Try.prog 19 #[(.pointer (some ⟨c1, 0, none⟩))] w0 fun e w' => e = .returned (.tuple #[.int .i64 (poV k1 bs), .int .i64 (poE k1 bs)]) ∧ Things W w' [X, Blk P (pcs (.pointer (some ⟨a, 0, none⟩)) (.pointer (some ⟨c0, 0, none⟩)) (.pointer (some ⟨c1, 0, none⟩)) (.pointer (some ⟨r, 0, none⟩)) (.pointer (some ⟨x0, 0, none⟩)) (.pointer (some ⟨x1, 0, none⟩))), Pc a (poB k1 bs) (poT k1 bs ss) [(c0, k0), (c1, (poS k1 bs))], Rf r bs ss [(x0, k0), (x1, k1)], Blk B (.cells #[.int .i64 2, .int .i64 x, .bool true, .int .u64 v] 39 (0, 0))]) := fun w0 h => g_pop h 2 rfl (by omega) 1 rfl
  have H2 : Hid (∀ w0, Things W w0 [X, Blk P (pcs (.pointer (some ⟨a, 0, none⟩)) (.pointer (some ⟨c0, 0, none⟩)) (.pointer (some ⟨c1, 0, none⟩)) (.pointer (some ⟨r, 0, none⟩)) (.pointer (some ⟨x0, 0, none⟩)) (.pointer (some ⟨x1, 0, none⟩))), Pc a (poB k1 bs) (poT k1 bs ss) [(c0, k0), (c1, (poS k1 bs))], Rf r bs ss [(x0, k0), (x1, k1)], Blk B (.cells #[.int .i64 2, .int .i64 x, .bool true, .int .u64 v] 39 (0, 0))] → Calls Try.prog 29 #[(.pointer (some ⟨x1, 0, none⟩))] w0 fun e w' => e = .returned (.tuple #[.int .i64 (poV k1 bs), .int .i64 (poE k1 bs)]) ∧ Things W w' [X, Blk P (pcs (.pointer (some ⟨a, 0, none⟩)) (.pointer (some ⟨c0, 0, none⟩)) (.pointer (some ⟨c1, 0, none⟩)) (.pointer (some ⟨r, 0, none⟩)) (.pointer (some ⟨x0, 0, none⟩)) (.pointer (some ⟨x1, 0, none⟩))), Pc a (poB k1 bs) (poT k1 bs ss) [(c0, k0), (c1, (poS k1 bs))], Rf r (poB k1 bs) (poT k1 bs ss) [(x0, k0), (x1, (poS k1 bs))], Blk B (.cells #[.int .i64 2, .int .i64 x, .bool true, .int .u64 v] 39 (0, 0))]) := fun w0 h => y_pop h 3 rfl (by omega) 1 rfl
  have hok : k1.Ok bs.length := (show Things _ _ _ from h).ok 2 rfl 1 rfl
  have HL : Hid ((poB k1 bs).length = bs.length ∧ (poT k1 bs ss).length ≤ ss.length + 64) := ⟨poB_len hok, by have := poT_len (k := k1) (bs := bs) (ss := ss); omega⟩
  clear hok
  have HPR : Hid ((poS k1 bs).per = k0.per) := by rw [per_po]; exact hp
  clear h hk hp
  generalize poV k1 bs = V at *
  generalize poE k1 bs = E at *
  generalize (poB k1 bs) = bs2 at *
  generalize (poT k1 bs ss) = ss2 at *
  generalize (poS k1 bs) = k2 at *
  go_enter Try.func10, Try.ntmps10
  go_wp2_with fail
  go_region_held3 (fun w' => w'.cell? ⟨P, 2, none⟩ = some (.pointer (some ⟨c1, 0, none⟩)) ∧ w'.cell? ⟨P, 5, none⟩ = some (.pointer (some ⟨x1, 0, none⟩))) (first | exact ⟨by assumption, by assumption⟩ | go_keep) (fail)
  go_wp2_with fail
  refine (H1.out _ (T0.out.kept (Fr.refl _ _).drew)).mono ?_
  rintro e w1 ⟨rfl, h1⟩
  have T1 := hid h1
  clear h1 T0 H1
  go_wp2_with fail
  refine (H2.out _ T1.out).mono ?_
  rintro e w2 ⟨rfl, h2⟩
  have T2 := hid h2
  clear h2 T1 H2
  go_wp2
  go_ret
  exact ⟨by simp, _, _, _, _, HL.out.1, HL.out.2, HPR.out, Things.less (ts := [_, _, _, _]) T2.out⟩
set_option maxRecDepth 20000 in
set_option maxHeartbeats 4000000 in
theorem done_3_1 {W w : World} {X : World → (Nat → Prop) → Prop} {P a r c0 c1 x0 x1 : Nat} {bs : List UInt8} {ss : List Sp} {k0 k1 : Ck} (h : PlayS W w X P a r c0 c1 x0 x1 bs ss k0 k1) (hp : k1.per = k0.per) (hk : ss.length ≤ 800000) (x v : Int) : Calls Try.prog 10 #[.pointer (some ⟨P, 0, none⟩), .agg #[.int .i64 3, .int .i64 x, .bool true, .int .u64 v]] w fun e w' => e = .returned (.bool true) ∧ After W w' X P a r c0 c1 x0 x1 bs.length (ss.length + 64) := by
  have T0 : Hid (Things W (w.alloc (.cells #[.int .i64 3, .int .i64 x, .bool true, .int .u64 v] 39)) [X, Blk P (pcs (.pointer (some ⟨a, 0, none⟩)) (.pointer (some ⟨c0, 0, none⟩)) (.pointer (some ⟨c1, 0, none⟩)) (.pointer (some ⟨r, 0, none⟩)) (.pointer (some ⟨x0, 0, none⟩)) (.pointer (some ⟨x1, 0, none⟩))), Pc a bs ss [(c0, k0), (c1, k1)], Rf r bs ss [(x0, k0), (x1, k1)], Blk w.heap.size (.cells #[.int .i64 3, .int .i64 x, .bool true, .int .u64 v] 39 (0, 0))]) := Things.blk h _
  generalize hB : w.heap.size = B at T0
  obtain ⟨⟨q0, q1, q2⟩, ⟨q3, q4, q5⟩, _⟩ := pcell (T0.out.cells 1 rfl)
  obtain ⟨p0, p1, p2, p3⟩ := ocell (T0.out.cells 4 rfl)
  have H1 : Hid (∀ w0, Things W w0 [X, Blk P (pcs (.pointer (some ⟨a, 0, none⟩)) (.pointer (some ⟨c0, 0, none⟩)) (.pointer (some ⟨c1, 0, none⟩)) (.pointer (some ⟨r, 0, none⟩)) (.pointer (some ⟨x0, 0, none⟩)) (.pointer (some ⟨x1, 0, none⟩))), Pc a bs ss [(c0, k0), (c1, k1)], Rf r bs ss [(x0, k0), (x1, k1)], Blk B (.cells #[.int .i64 3, .int .i64 x, .bool true, .int .u64 v] 39 (0, 0))] → Calls Try.prog 18 #[(.pointer (some ⟨c1, 0, none⟩))] w0 fun e w' => ∃ ad1 cap1, e = .returned (.tuple #[.slice ad1 (nI (alL k1 bs)).length cap1, .int .i64 (alE k1 bs)]) ∧ Things W w' [X, Blk P (pcs (.pointer (some ⟨a, 0, none⟩)) (.pointer (some ⟨c0, 0, none⟩)) (.pointer (some ⟨c1, 0, none⟩)) (.pointer (some ⟨r, 0, none⟩)) (.pointer (some ⟨x0, 0, none⟩)) (.pointer (some ⟨x1, 0, none⟩))), Pc a bs (alT k1 bs ss) [(c0, k0), (c1, k1)], Rf r bs ss [(x0, k0), (x1, k1)], Blk B (.cells #[.int .i64 3, .int .i64 x, .bool true, .int .u64 v] 39 (0, 0)), Lv ad1 (nI (alL k1 bs))]) := fun w0 h => g_all h 2 rfl (by omega) 1 rfl
  have H2 : Hid (∀ w0 ad1, Things W w0 [X, Blk P (pcs (.pointer (some ⟨a, 0, none⟩)) (.pointer (some ⟨c0, 0, none⟩)) (.pointer (some ⟨c1, 0, none⟩)) (.pointer (some ⟨r, 0, none⟩)) (.pointer (some ⟨x0, 0, none⟩)) (.pointer (some ⟨x1, 0, none⟩))), Pc a bs (alT k1 bs ss) [(c0, k0), (c1, k1)], Rf r bs ss [(x0, k0), (x1, k1)], Blk B (.cells #[.int .i64 3, .int .i64 x, .bool true, .int .u64 v] 39 (0, 0)), Lv ad1 (nI (alL k1 bs))] → Calls Try.prog 30 #[(.pointer (some ⟨x1, 0, none⟩))] w0 fun e w' => ∃ ad2 cap2, e = .returned (.tuple #[.slice ad2 (nI (alL k1 bs)).length cap2, .int .i64 (alE k1 bs)]) ∧ Things W w' [X, Blk P (pcs (.pointer (some ⟨a, 0, none⟩)) (.pointer (some ⟨c0, 0, none⟩)) (.pointer (some ⟨c1, 0, none⟩)) (.pointer (some ⟨r, 0, none⟩)) (.pointer (some ⟨x0, 0, none⟩)) (.pointer (some ⟨x1, 0, none⟩))), Pc a bs (alT k1 bs ss) [(c0, k0), (c1, k1)], Rf r bs (alT k1 bs ss) [(x0, k0), (x1, k1)], Blk B (.cells #[.int .i64 3, .int .i64 x, .bool true, .int .u64 v] 39 (0, 0)), Lv ad1 (nI (alL k1 bs)), Lv ad2 (nI (alL k1 bs))]) := fun w0 ad1 h => y_all h 3 rfl (by omega) 1 rfl
  have hok : k1.Ok bs.length := (show Things _ _ _ from h).ok 2 rfl 1 rfl
  have HL : Hid ((alT k1 bs ss).length ≤ ss.length + 64) := alT_len hok
  have HAL : Hid ((nI (alL k1 bs)).length ≤ 1000) := by have := alL_len (bs := bs) hok; show _ ≤ _; rw [nI_length]; omega
  clear hok
  have H3 : Hid (∀ w0 ad1 ad2 d1 d2, Things W w0 [X, Blk P (pcs (.pointer (some ⟨a, 0, none⟩)) (.pointer (some ⟨c0, 0, none⟩)) (.pointer (some ⟨c1, 0, none⟩)) (.pointer (some ⟨r, 0, none⟩)) (.pointer (some ⟨x0, 0, none⟩)) (.pointer (some ⟨x1, 0, none⟩))), Pc a bs (alT k1 bs ss) [(c0, k0), (c1, k1)], Rf r bs (alT k1 bs ss) [(x0, k0), (x1, k1)], Blk B (.cells #[.int .i64 3, .int .i64 x, .bool true, .int .u64 v] 39 (0, 0)), Lv ad1 (nI (alL k1 bs)), Lv ad2 (nI (alL k1 bs))] → Calls Try.prog 24 #[.slice ad1 (nI (alL k1 bs)).length d1, .slice ad2 (nI (alL k1 bs)).length d2] w0 fun e w' => e = .returned (.bool true) ∧ Things W w' [X, Blk P (pcs (.pointer (some ⟨a, 0, none⟩)) (.pointer (some ⟨c0, 0, none⟩)) (.pointer (some ⟨c1, 0, none⟩)) (.pointer (some ⟨r, 0, none⟩)) (.pointer (some ⟨x0, 0, none⟩)) (.pointer (some ⟨x1, 0, none⟩))), Pc a bs (alT k1 bs ss) [(c0, k0), (c1, k1)], Rf r bs (alT k1 bs ss) [(x0, k0), (x1, k1)], Blk B (.cells #[.int .i64 3, .int .i64 x, .bool true, .int .u64 v] 39 (0, 0)), Lv ad1 (nI (alL k1 bs)), Lv ad2 (nI (alL k1 bs))]) := fun w0 ad1 ad2 d1 d2 h => (same_yes d1 d2 (h.nums 5 rfl) (h.nums 6 rfl) HAL.out).mono fun e w' ⟨he, f⟩ => ⟨he, h.kept f⟩
  have HPR := hid hp
  clear h hk hp HAL
  generalize alE k1 bs = E at *
  generalize (nI (alL k1 bs)) = ll at *
  generalize (alT k1 bs ss) = ss2 at *
  go_enter Try.func10, Try.ntmps10
  go_wp2_with fail
  go_region_held3 (fun w' => w'.cell? ⟨P, 2, none⟩ = some (.pointer (some ⟨c1, 0, none⟩)) ∧ w'.cell? ⟨P, 5, none⟩ = some (.pointer (some ⟨x1, 0, none⟩))) (first | exact ⟨by assumption, by assumption⟩ | go_keep) (fail)
  go_wp2_with fail
  refine (H1.out _ (T0.out.kept (Fr.refl _ _).drew)).mono ?_
  rintro e w1 ⟨ad1, cap1, rfl, h1⟩
  have T1 := hid h1
  clear h1 T0 H1
  go_wp2_with fail
  refine (H2.out _ _ T1.out).mono ?_
  rintro e w2 ⟨ad2, cap2, rfl, h2⟩
  have T2 := hid h2
  clear h2 T1 H2
  go_wp2_with fail
  refine (H3.out _ _ _ _ _ T2.out).mono ?_
  rintro e w3 ⟨rfl, h3⟩
  have T3 := hid h3
  clear h3 T2 H3
  go_wp2
  go_ret
  exact ⟨by simp, _, _, _, _, rfl, HL.out, HPR.out, Things.less (ts := [_, _, _, _]) (Things.less (ts := [_, _, _, _, _]) (Things.less (ts := [_, _, _, _, _, _]) T3.out))⟩
set_option maxRecDepth 20000 in
set_option maxHeartbeats 4000000 in
theorem done_4_1 {W w : World} {X : World → (Nat → Prop) → Prop} {P a r c0 c1 x0 x1 : Nat} {bs : List UInt8} {ss : List Sp} {k0 k1 : Ck} (h : PlayS W w X P a r c0 c1 x0 x1 bs ss k0 k1) (hp : k1.per = k0.per) (_hk : ss.length ≤ 800000) (x v : Int) : Calls Try.prog 10 #[.pointer (some ⟨P, 0, none⟩), .agg #[.int .i64 4, .int .i64 x, .bool true, .int .u64 v]] w fun e w' => e = .returned (.bool true) ∧ After W w' X P a r c0 c1 x0 x1 bs.length (ss.length + 64) := by
  have T0 : Hid (Things W (w.alloc (.cells #[.int .i64 4, .int .i64 x, .bool true, .int .u64 v] 39)) [X, Blk P (pcs (.pointer (some ⟨a, 0, none⟩)) (.pointer (some ⟨c0, 0, none⟩)) (.pointer (some ⟨c1, 0, none⟩)) (.pointer (some ⟨r, 0, none⟩)) (.pointer (some ⟨x0, 0, none⟩)) (.pointer (some ⟨x1, 0, none⟩))), Pc a bs ss [(c0, k0), (c1, k1)], Rf r bs ss [(x0, k0), (x1, k1)], Blk w.heap.size (.cells #[.int .i64 4, .int .i64 x, .bool true, .int .u64 v] 39 (0, 0))]) := Things.blk h _
  generalize hB : w.heap.size = B at T0
  obtain ⟨⟨q0, q1, q2⟩, ⟨q3, q4, q5⟩, _⟩ := pcell (T0.out.cells 1 rfl)
  obtain ⟨p0, p1, p2, p3⟩ := ocell (T0.out.cells 4 rfl)
  have H1 : Hid (∀ w0, Things W w0 [X, Blk P (pcs (.pointer (some ⟨a, 0, none⟩)) (.pointer (some ⟨c0, 0, none⟩)) (.pointer (some ⟨c1, 0, none⟩)) (.pointer (some ⟨r, 0, none⟩)) (.pointer (some ⟨x0, 0, none⟩)) (.pointer (some ⟨x1, 0, none⟩))), Pc a bs ss [(c0, k0), (c1, k1)], Rf r bs ss [(x0, k0), (x1, k1)], Blk B (.cells #[.int .i64 4, .int .i64 x, .bool true, .int .u64 v] 39 (0, 0))] → Calls Try.prog 21 #[(.pointer (some ⟨c1, 0, none⟩)), (.pointer (some ⟨c0, 0, none⟩))] w0 fun e w' => e = .returned (.int .i64 (taE k1)) ∧ Things W w' [X, Blk P (pcs (.pointer (some ⟨a, 0, none⟩)) (.pointer (some ⟨c0, 0, none⟩)) (.pointer (some ⟨c1, 0, none⟩)) (.pointer (some ⟨r, 0, none⟩)) (.pointer (some ⟨x0, 0, none⟩)) (.pointer (some ⟨x1, 0, none⟩))), Pc a bs ss [(c0, (taD k1 k0)), (c1, (taS k1 k0))], Rf r bs ss [(x0, k0), (x1, k1)], Blk B (.cells #[.int .i64 4, .int .i64 x, .bool true, .int .u64 v] 39 (0, 0))]) := fun w0 h => g_take h 2 rfl (i := 1) (j := 0) (by omega) rfl rfl hp.symm
  have H2 : Hid (∀ w0, Things W w0 [X, Blk P (pcs (.pointer (some ⟨a, 0, none⟩)) (.pointer (some ⟨c0, 0, none⟩)) (.pointer (some ⟨c1, 0, none⟩)) (.pointer (some ⟨r, 0, none⟩)) (.pointer (some ⟨x0, 0, none⟩)) (.pointer (some ⟨x1, 0, none⟩))), Pc a bs ss [(c0, (taD k1 k0)), (c1, (taS k1 k0))], Rf r bs ss [(x0, k0), (x1, k1)], Blk B (.cells #[.int .i64 4, .int .i64 x, .bool true, .int .u64 v] 39 (0, 0))] → Calls Try.prog 31 #[(.pointer (some ⟨x1, 0, none⟩)), (.pointer (some ⟨x0, 0, none⟩))] w0 fun e w' => e = .returned (.int .i64 (taE k1)) ∧ Things W w' [X, Blk P (pcs (.pointer (some ⟨a, 0, none⟩)) (.pointer (some ⟨c0, 0, none⟩)) (.pointer (some ⟨c1, 0, none⟩)) (.pointer (some ⟨r, 0, none⟩)) (.pointer (some ⟨x0, 0, none⟩)) (.pointer (some ⟨x1, 0, none⟩))), Pc a bs ss [(c0, (taD k1 k0)), (c1, (taS k1 k0))], Rf r bs ss [(x0, (taD k1 k0)), (x1, (taS k1 k0))], Blk B (.cells #[.int .i64 4, .int .i64 x, .bool true, .int .u64 v] 39 (0, 0))]) := fun w0 h => y_take h 3 rfl (i := 1) (j := 0) (by omega) rfl rfl hp.symm
  have HPR : Hid ((taS k1 k0).per = (taD k1 k0).per) := by show _ = _; rw [(per_ta k1 k0).1, (per_ta k1 k0).2]; exact hp
  have HL : Hid (ss.length ≤ ss.length + 64) := (by omega : ss.length ≤ ss.length + 64)
  have wa : IntKind.i64.wrap (1 - 1) = 0 := by decide
  have wb : IntKind.i64.wrap 0 = 0 := by decide
  clear h _hk hp
  generalize taE k1 = E at *
  generalize (taD k1 k0) = m0 at *
  generalize (taS k1 k0) = m1 at *
  go_enter Try.func10, Try.ntmps10
  go_wp2_with fail
  go_region_held3 (fun w' => w'.cell? ⟨P, 2, none⟩ = some (.pointer (some ⟨c1, 0, none⟩)) ∧ w'.cell? ⟨P, 5, none⟩ = some (.pointer (some ⟨x1, 0, none⟩))) (first | exact ⟨by assumption, by assumption⟩ | go_keep) (fail)
  go_wp2_with fail
  go_region_held3 (fun w' => w'.cell? ⟨P, 1, none⟩ = some (.pointer (some ⟨c0, 0, none⟩)) ∧ w'.cell? ⟨P, 4, none⟩ = some (.pointer (some ⟨x0, 0, none⟩))) (first | exact ⟨by assumption, by assumption⟩ | go_keep) (first | (go_at_call 21; refine (H1.out _ (T0.out.kept (((Fr.refl _ _).drew).drew))).mono ?_; rintro e w1 ⟨rfl, h1⟩; have T1 := hid h1; obtain ⟨⟨s0, s1, s2⟩, ⟨s3, s4, s5⟩, _⟩ := pcell (h1.cells 1 rfl); clear h1) | (go_at_call 31; refine (H2.out _ T1.out).mono ?_; rintro e w2 ⟨rfl, h2⟩; have T2 := hid h2; obtain ⟨⟨v0, v1, v2⟩, ⟨v3, v4, v5⟩, _⟩ := pcell (h2.cells 1 rfl); clear h2))
  go_wp2
  go_ret
  exact ⟨by simp, _, _, _, _, rfl, HL.out, HPR.out, Things.less (ts := [_, _, _, _]) T2.out⟩
set_option maxRecDepth 20000 in
set_option maxHeartbeats 4000000 in
theorem done_6_1 {W w : World} {X : World → (Nat → Prop) → Prop} {P a r c0 c1 x0 x1 : Nat} {bs : List UInt8} {ss : List Sp} {k0 k1 : Ck} (h : PlayS W w X P a r c0 c1 x0 x1 bs ss k0 k1) (hp : k1.per = k0.per) (hk : ss.length ≤ 800000) (x v : Int) (hx : x ≤ 9223372036854775807) (hv : 0 ≤ v ∧ v ≤ 18446744073709551615) : Calls Try.prog 10 #[.pointer (some ⟨P, 0, none⟩), .agg #[.int .i64 6, .int .i64 x, .bool true, .int .u64 v]] w fun e w' => e = .returned (.bool true) ∧ After W w' X P a r c0 c1 x0 x1 bs.length (ss.length + 64) := by
  have T0 : Hid (Things W (w.alloc (.cells #[.int .i64 6, .int .i64 x, .bool true, .int .u64 v] 39)) [X, Blk P (pcs (.pointer (some ⟨a, 0, none⟩)) (.pointer (some ⟨c0, 0, none⟩)) (.pointer (some ⟨c1, 0, none⟩)) (.pointer (some ⟨r, 0, none⟩)) (.pointer (some ⟨x0, 0, none⟩)) (.pointer (some ⟨x1, 0, none⟩))), Pc a bs ss [(c0, k0), (c1, k1)], Rf r bs ss [(x0, k0), (x1, k1)], Blk w.heap.size (.cells #[.int .i64 6, .int .i64 x, .bool true, .int .u64 v] 39 (0, 0))]) := Things.blk h _
  generalize hB : w.heap.size = B at T0
  obtain ⟨⟨q0, q1, q2⟩, ⟨q3, q4, q5⟩, _⟩ := pcell (T0.out.cells 1 rfl)
  obtain ⟨p0, p1, p2, p3⟩ := ocell (T0.out.cells 4 rfl)
  have H1 : Hid (∀ w0, Things W w0 [X, Blk P (pcs (.pointer (some ⟨a, 0, none⟩)) (.pointer (some ⟨c0, 0, none⟩)) (.pointer (some ⟨c1, 0, none⟩)) (.pointer (some ⟨r, 0, none⟩)) (.pointer (some ⟨x0, 0, none⟩)) (.pointer (some ⟨x1, 0, none⟩))), Pc a bs ss [(c0, k0), (c1, k1)], Rf r bs ss [(x0, k0), (x1, k1)], Blk B (.cells #[.int .i64 6, .int .i64 x, .bool true, .int .u64 v] 39 (0, 0))] → Calls Try.prog 33 #[(.pointer (some ⟨a, 0, none⟩)), .int .i64 x, .int .u64 v] w0 fun e w' => e = .returned (.int .i64 (errE (inB x 8 bs.length))) ∧ Things W w' [X, Blk P (pcs (.pointer (some ⟨a, 0, none⟩)) (.pointer (some ⟨c0, 0, none⟩)) (.pointer (some ⟨c1, 0, none⟩)) (.pointer (some ⟨r, 0, none⟩)) (.pointer (some ⟨x0, 0, none⟩)) (.pointer (some ⟨x1, 0, none⟩))), Pc a (layB (inB x 8 bs.length) bs x (leb v.toNat 8)) (notS (inB x 8 bs.length) ss x 8 true) [(c0, k0), (c1, k1)], Rf r bs ss [(x0, k0), (x1, k1)], Blk B (.cells #[.int .i64 6, .int .i64 x, .bool true, .int .u64 v] 39 (0, 0))]) := fun w0 h => g_put h 2 rfl x v hx hv.1 hv.2 (by omega)
  have H2 : Hid (∀ w0, Things W w0 [X, Blk P (pcs (.pointer (some ⟨a, 0, none⟩)) (.pointer (some ⟨c0, 0, none⟩)) (.pointer (some ⟨c1, 0, none⟩)) (.pointer (some ⟨r, 0, none⟩)) (.pointer (some ⟨x0, 0, none⟩)) (.pointer (some ⟨x1, 0, none⟩))), Pc a (layB (inB x 8 bs.length) bs x (leb v.toNat 8)) (notS (inB x 8 bs.length) ss x 8 true) [(c0, k0), (c1, k1)], Rf r bs ss [(x0, k0), (x1, k1)], Blk B (.cells #[.int .i64 6, .int .i64 x, .bool true, .int .u64 v] 39 (0, 0))] → Calls Try.prog 34 #[(.pointer (some ⟨r, 0, none⟩)), .int .i64 x, .int .u64 v] w0 fun e w' => e = .returned (.int .i64 (errE (inB x 8 bs.length))) ∧ Things W w' [X, Blk P (pcs (.pointer (some ⟨a, 0, none⟩)) (.pointer (some ⟨c0, 0, none⟩)) (.pointer (some ⟨c1, 0, none⟩)) (.pointer (some ⟨r, 0, none⟩)) (.pointer (some ⟨x0, 0, none⟩)) (.pointer (some ⟨x1, 0, none⟩))), Pc a (layB (inB x 8 bs.length) bs x (leb v.toNat 8)) (notS (inB x 8 bs.length) ss x 8 true) [(c0, k0), (c1, k1)], Rf r (layB (inB x 8 bs.length) bs x (leb v.toNat 8)) (notS (inB x 8 bs.length) ss x 8 true) [(x0, k0), (x1, k1)], Blk B (.cells #[.int .i64 6, .int .i64 x, .bool true, .int .u64 v] 39 (0, 0))]) := fun w0 h => y_put h 3 rfl x v hx hv.1 hv.2 (by omega)
  have HL : Hid ((layB (inB x 8 bs.length) bs x (leb v.toNat 8)).length = bs.length ∧ (notS (inB x 8 bs.length) ss x 8 true).length ≤ ss.length + 64) := ⟨layB_length _ _ _ _ fun e => by rw [inB_true] at e; rw [leb_length]; omega, by have := notS_le (inB x 8 bs.length) ss x 8 true; omega⟩
  have HPR := hid hp
  clear h hk hp hx hv
  generalize (errE (inB x 8 bs.length)) = E at *
  generalize (layB (inB x 8 bs.length) bs x (leb v.toNat 8)) = bs2 at *
  generalize (notS (inB x 8 bs.length) ss x 8 true) = ss2 at *
  go_enter Try.func10, Try.ntmps10
  go_wp2_with fail
  go_region_held3 (fun w' => w'.cell? ⟨P, 2, none⟩ = some (.pointer (some ⟨c1, 0, none⟩)) ∧ w'.cell? ⟨P, 5, none⟩ = some (.pointer (some ⟨x1, 0, none⟩))) (first | exact ⟨by assumption, by assumption⟩ | go_keep) (fail)
  go_wp2_with fail
  go_region_held3 (fun w' => w'.cell? ⟨P, 0, none⟩ = some (.pointer (some ⟨a, 0, none⟩)) ∧ w'.cell? ⟨P, 3, none⟩ = some (.pointer (some ⟨r, 0, none⟩)) ∧ w'.cell? ⟨B, 1, none⟩ = some (.int .i64 x) ∧ w'.cell? ⟨B, 3, none⟩ = some (.int .u64 v)) (first | exact ⟨by assumption, by assumption, by assumption, by assumption⟩ | go_keep) (first | (go_at_call 33; refine (H1.out _ (T0.out.kept (((Fr.refl _ _).drew).drew))).mono ?_; rintro e w1 ⟨rfl, h1⟩; have T1 := hid h1; obtain ⟨⟨s0, s1, s2⟩, ⟨s3, s4, s5⟩, _⟩ := pcell (h1.cells 1 rfl); obtain ⟨t0, t1, t2, t3⟩ := ocell (h1.cells 4 rfl); clear h1) | (go_at_call 34; refine (H2.out _ T1.out).mono ?_; rintro e w2 ⟨rfl, h2⟩; have T2 := hid h2; obtain ⟨⟨v0, v1, v2⟩, ⟨v3, v4, v5⟩, _⟩ := pcell (h2.cells 1 rfl); obtain ⟨z0, z1, z2, z3⟩ := ocell (h2.cells 4 rfl); clear h2))
  go_wp2
  go_ret
  exact ⟨by simp, _, _, _, _, HL.out.1, HL.out.2, HPR.out, Things.less (ts := [_, _, _, _]) T2.out⟩
set_option maxRecDepth 20000 in
set_option maxHeartbeats 4000000 in
theorem done_n_1 {W w : World} {X : World → (Nat → Prop) → Prop} {P a r c0 c1 x0 x1 : Nat} {bs : List UInt8} {ss : List Sp} {k0 k1 : Ck} (h : PlayS W w X P a r c0 c1 x0 x1 bs ss k0 k1) (hp : k1.per = k0.per) (_hk : ss.length ≤ 800000) {kd : Int} (hkd : ∀ i : Int, 1 ≤ i → i ≤ 6 → kd ≠ i) (x v : Int) : Calls Try.prog 10 #[.pointer (some ⟨P, 0, none⟩), .agg #[.int .i64 kd, .int .i64 x, .bool true, .int .u64 v]] w fun e w' => e = .returned (.bool true) ∧ After W w' X P a r c0 c1 x0 x1 bs.length (ss.length + 64) := by
  have T0 : Hid (Things W (w.alloc (.cells #[.int .i64 kd, .int .i64 x, .bool true, .int .u64 v] 39)) [X, Blk P (pcs (.pointer (some ⟨a, 0, none⟩)) (.pointer (some ⟨c0, 0, none⟩)) (.pointer (some ⟨c1, 0, none⟩)) (.pointer (some ⟨r, 0, none⟩)) (.pointer (some ⟨x0, 0, none⟩)) (.pointer (some ⟨x1, 0, none⟩))), Pc a bs ss [(c0, k0), (c1, k1)], Rf r bs ss [(x0, k0), (x1, k1)], Blk w.heap.size (.cells #[.int .i64 kd, .int .i64 x, .bool true, .int .u64 v] 39 (0, 0))]) := Things.blk h _
  generalize hB : w.heap.size = B at T0
  obtain ⟨⟨q0, q1, q2⟩, ⟨q3, q4, q5⟩, _⟩ := pcell (T0.out.cells 1 rfl)
  obtain ⟨p0, p1, p2, p3⟩ := ocell (T0.out.cells 4 rfl)
  have HPR := hid hp
  have e1 := hkd 1 (by omega) (by omega)
  have e2 := hkd 2 (by omega) (by omega)
  have e3 := hkd 3 (by omega) (by omega)
  have e4 := hkd 4 (by omega) (by omega)
  have e5 := hkd 5 (by omega) (by omega)
  have e6 := hkd 6 (by omega) (by omega)
  clear h _hk hp hkd
  go_enter Try.func10, Try.ntmps10
  go_wp2_with fail
  go_region_held3 (fun w' => w'.cell? ⟨P, 2, none⟩ = some (.pointer (some ⟨c1, 0, none⟩)) ∧ w'.cell? ⟨P, 5, none⟩ = some (.pointer (some ⟨x1, 0, none⟩))) (first | exact ⟨by assumption, by assumption⟩ | go_keep) (fail)
  go_wp2
  go_ret
  exact ⟨by simp, _, _, _, _, rfl, by omega, HPR.out, Things.less (ts := [_, _, _, _]) (T0.out.kept (Fr.refl _ _).drew)⟩
end Go.Proofs.Ytjgkcaibapffhaa
