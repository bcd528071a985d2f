/-
  What the calls of package tenant do: Malloc, Restrict, Free, Usable, reach.
  What the calls of package tenant do: reach, Read, Write.
-/
import Derived.Test.YtndhbnhobhkmaaaGreatDoorTnCallsD
namespace Go.Proofs.YtndhbnhobhkmaaaGreatDoor
open Go.RowKit
open An

section
variable {W w : World} {x : Tp} {S : TnS} {ts : List (World → (Nat → Prop) → Prop)}
theorem blS_n (k : Nat) (S : TnS) (n : Int) : (blS k S n).n = S.n := by unfold blS; split <;> rfl
theorem tkS_n (k : Nat) (S : TnS) (n : Int) : (tkS k S n).n = S.n := by
  unfold tkS
  split
  · rfl
  · split
    · split
      · exact blS_n k (tk1 S n) n
      · exact blS_n k (tk1 S n) n
    · rfl
set_option maxRecDepth 20000 in
theorem n_malloc_no (g : Things W w (tnl x S ts)) (gr : G17 W) (hc : Hc x.k S.M S.H) {n : Int} (hn : I64 n) (h : tkE x.k S n ≠ 0) : Calls Tryz.prog 26 #[.pointer (some ⟨x.T, 0, none⟩), .int .i64 n] w fun e w' => e = .returned (ans (tkE x.k S n) 0 0 0 ⟨#[]⟩ (tkS x.k S n).s.cb) ∧ Things W w' (tnl x (tkS x.k S n) ts) := by
  have G : Hid (Things W (w.alloc (.cells #[.int .i64 0, .int .u64 0, .int .i64 0, .int .i64 0, .string ⟨#[]⟩, .int .i64 0] 43)) (tnl x S (ts ++ [Blk w.heap.size (.cells #[.int .i64 0, .int .u64 0, .int .i64 0, .int .i64 0, .string ⟨#[]⟩, .int .i64 0] 43 (0, 0))]))) := g.blk (.cells #[.int .i64 0, .int .u64 0, .int .i64 0, .int .i64 0, .string ⟨#[]⟩, .int .i64 0] 43 (0, 0))
  have H1 := hid fun (w : World) (ts : List (World → (Nat → Prop) → Prop)) (g : Things W w (tnl x S ts)) => n_take g gr hc hn
  have H2 := hid fun (w : World) (ts : List (World → (Nat → Prop) → Prop)) (E : Int) (g : Things W w (tnl x (tkS x.k S n) ts)) => n_refuse g E
  generalize tkS x.k S n = S1 at *
  generalize tkE x.k S n = te at *
  generalize tkV x.k S n = tv at *
  generalize S1.s.cb = cb at *
  clear g gr hc hn
  go_enter Tryz.func26, Tryz.ntmps26
  go_wp2_with fail
  refine (H1.out _ _ G.out).mono ?_
  rintro e w1 ⟨rfl, g1⟩
  have G1 := hid g1
  clear g1 G H1
  go_wp2_with fail
  refine (H2.out _ _ _ G1.out).mono ?_
  rintro e w2 ⟨rfl, g2⟩
  have G2 := hid g2
  clear g2 G1 H2
  have z1 := fun i => box_frz (tn_box G2.out) i
  have b0 := box_cellT (tn_box G2.out) 0 rfl
  have b1 := box_cellT (tn_box G2.out) 1 rfl
  have b2 := box_cellT (tn_box G2.out) 2 rfl
  have b3 := box_cellT (tn_box G2.out) 3 rfl
  have b4 := box_cellT (tn_box G2.out) 4 rfl
  have b5 := box_cellT (tn_box G2.out) 5 rfl
  go_wp2
  clear z1 b0 b1 b2 b3 b4 b5
  obtain ⟨HF, hk⟩ := ans_put (tn_box G2.out) (te) (0) (0) (0) ⟨#[]⟩ (cb)
  have TZ := Things.boxes1 (ts := tnl x S1 ts) G2.out HF
  have k0 := hk 0 _ rfl
  have k1 := hk 1 _ rfl
  have k2 := hk 2 _ rfl
  have k3 := hk 3 _ rfl
  have k4 := hk 4 _ rfl
  have k5 := hk 5 _ rfl
  clear HF hk
  generalize (((((w2.setCell ⟨w.heap.size, 0, none⟩ (.int .i64 (te))).setCell ⟨w.heap.size, 1, none⟩ (.int .u64 (0))).setCell ⟨w.heap.size, 2, none⟩ (.int .i64 (0))).setCell ⟨w.heap.size, 3, none⟩ (.int .i64 (0))).setCell ⟨w.heap.size, 4, none⟩ (.string ⟨#[]⟩)).setCell ⟨w.heap.size, 5, none⟩ (.int .i64 (cb)) = wz at *
  exact bodyPost_ret (v := ans (te) (0) (0) (0) ⟨#[]⟩ (cb)) (by simp [results, Tryz.results26, go_sem, k0, k1, k2, k3, k4, k5]) rfl ⟨rfl, TZ⟩
set_option maxRecDepth 20000 in
theorem n_malloc_ok (g : Things W w (tnl x S ts)) (gr : G17 W) (hc : Hc x.k S.M S.H) {n : Int} (hn : I64 n) (h : tkE x.k S n = 0) (hv : I64 (tkV x.k S n)) (hm : S.n < maxLen) : Calls Tryz.prog 26 #[.pointer (some ⟨x.T, 0, none⟩), .int .i64 n] w fun e w' => e = .returned (ans (Ka.grE (tkS x.k S n).c (tkV x.k S n)) (Ka.grV (tkS x.k S n).c (tkV x.k S n)) (tkV x.k S n) 0 ⟨#[]⟩ (tkS x.k S n).s.cb) ∧ Things W w' (tnl x (owS (tkS x.k S n) (tkV x.k S n) n) ts) := by
  have G : Hid (Things W (w.alloc (.cells #[.int .i64 0, .int .u64 0, .int .i64 0, .int .i64 0, .string ⟨#[]⟩, .int .i64 0] 43)) (tnl x S (ts ++ [Blk w.heap.size (.cells #[.int .i64 0, .int .u64 0, .int .i64 0, .int .i64 0, .string ⟨#[]⟩, .int .i64 0] 43 (0, 0))]))) := g.blk (.cells #[.int .i64 0, .int .u64 0, .int .i64 0, .int .i64 0, .string ⟨#[]⟩, .int .i64 0] 43 (0, 0))
  have H1 := hid fun (w : World) (ts : List (World → (Nat → Prop) → Prop)) (g : Things W w (tnl x S ts)) => n_take g gr hc hn
  have H2 := hid fun (w : World) (ts : List (World → (Nat → Prop) → Prop)) (g : Things W w (tnl x (tkS x.k S n) ts)) => n_own (n := n) g gr hv (by rw [tkS_n]; exact hm)
  rw [h] at H1
  generalize owS (tkS x.k S n) (tkV x.k S n) n = S2 at *
  generalize tkS x.k S n = S1 at *
  generalize tkV x.k S n = tv at *
  generalize Ka.grE S1.c tv = ge at *
  generalize Ka.grV S1.c tv = gv at *
  generalize S1.s.cb = cb at *
  clear g gr hc hn h hv hm
  go_enter Tryz.func26, Tryz.ntmps26
  go_wp2_with fail
  refine (H1.out _ _ G.out).mono ?_
  rintro e w1 ⟨rfl, g1⟩
  have G1 := hid g1
  clear g1 G H1
  go_wp2_with fail
  refine (H2.out _ _ G1.out).mono ?_
  rintro e w2 ⟨rfl, g2⟩
  have G2 := hid g2
  clear g2 G1 H2
  have z1 := fun i => box_frz (tn_box G2.out) i
  have b0 := box_cellT (tn_box G2.out) 0 rfl
  have b1 := box_cellT (tn_box G2.out) 1 rfl
  have b2 := box_cellT (tn_box G2.out) 2 rfl
  have b3 := box_cellT (tn_box G2.out) 3 rfl
  have b4 := box_cellT (tn_box G2.out) 4 rfl
  have b5 := box_cellT (tn_box G2.out) 5 rfl
  go_wp2
  clear z1 b0 b1 b2 b3 b4 b5
  obtain ⟨HF, hk⟩ := ans_put (tn_box G2.out) (ge) (gv) (tv) (0) ⟨#[]⟩ (cb)
  have TZ := Things.boxes1 (ts := tnl x S2 ts) G2.out HF
  have k0 := hk 0 _ rfl
  have k1 := hk 1 _ rfl
  have k2 := hk 2 _ rfl
  have k3 := hk 3 _ rfl
  have k4 := hk 4 _ rfl
  have k5 := hk 5 _ rfl
  clear HF hk
  generalize (((((w2.setCell ⟨w.heap.size, 0, none⟩ (.int .i64 (ge))).setCell ⟨w.heap.size, 1, none⟩ (.int .u64 (gv))).setCell ⟨w.heap.size, 2, none⟩ (.int .i64 (tv))).setCell ⟨w.heap.size, 3, none⟩ (.int .i64 (0))).setCell ⟨w.heap.size, 4, none⟩ (.string ⟨#[]⟩)).setCell ⟨w.heap.size, 5, none⟩ (.int .i64 (cb)) = wz at *
  exact bodyPost_ret (v := ans (ge) (gv) (tv) (0) ⟨#[]⟩ (cb)) (by simp [results, Tryz.results26, go_sem, k0, k1, k2, k3, k4, k5]) rfl ⟨rfl, TZ⟩
set_option maxRecDepth 20000 in
theorem n_restrict (g : Things W w (tnl x S ts)) (gr : G17 W) {b : Int} (b0 : 0 ≤ b) (b1 : b ≤ 18446744073709551615) (r : Int) : Calls Tryz.prog 22 #[.pointer (some ⟨x.T, 0, none⟩), .int .u64 b, .int .i64 r] w fun e w' => e = .returned (ans (Ka.reE S.c b r) (Ka.reV S.c b r) 0 0 ⟨#[]⟩ S.s.cb) ∧ Things W w' (tnl x { S with c := Ka.reS S.c b r } ts) := by
  have G : Hid (Things W (w.alloc (.cells #[.int .i64 0, .int .u64 0, .int .i64 0, .int .i64 0, .string ⟨#[]⟩, .int .i64 0] 43)) (tnl x S (ts ++ [Blk w.heap.size (.cells #[.int .i64 0, .int .u64 0, .int .i64 0, .int .i64 0, .string ⟨#[]⟩, .int .i64 0] 43 (0, 0))]))) := g.blk (.cells #[.int .i64 0, .int .u64 0, .int .i64 0, .int .i64 0, .string ⟨#[]⟩, .int .i64 0] 43 (0, 0))
  have c4 := tn_cell G.out 4 rfl
  have H1 : Hid (∀ (w : World) (ts : List (World → (Nat → Prop) → Prop)), Things W w (tnl x S ts) → Calls Tryz.prog 53 #[.pointer (some ⟨x.c, 0, none⟩), .int .u64 b, .int .i64 r] w fun e w' => e = .returned (.tuple #[.int .u64 (Ka.reV S.c b r), .int .i64 (Ka.reE S.c b r)]) ∧ Things W w' (tnl x { S with c := Ka.reS S.c b r } ts)) := fun w ts g => kq_restrict g gr 1 rfl b0 b1 r
  have H2 : Hid (∀ (w : World) (ts : List (World → (Nat → Prop) → Prop)) (E hd : Int), Things W w (tnl x { S with c := Ka.reS S.c b r } ts) → Calls Tryz.prog 32 #[.pointer (some ⟨x.T, 0, none⟩), ans E hd 0 0 ⟨#[]⟩ 0] w fun e w' => e = .returned (ans E hd 0 0 ⟨#[]⟩ S.s.cb) ∧ Things W w' (tnl x { S with c := Ka.reS S.c b r } ts)) := fun w ts E hd g => n_say g E hd 0 0 ⟨#[]⟩ 0
  generalize { S with c := Ka.reS S.c b r } = S1 at *
  generalize Ka.reE S.c b r = re at *
  generalize Ka.reV S.c b r = rv at *
  generalize S.s.cb = cb at *
  clear g gr b0 b1
  go_enter Tryz.func22, Tryz.ntmps22
  go_wp2_with fail
  refine (H1.out _ _ G.out).mono ?_
  rintro e w1 ⟨rfl, g1⟩
  have G1 := hid g1
  clear g1 G H1 c4
  go_wp2_with fail
  refine (H2.out _ _ _ _ G1.out).mono ?_
  rintro e w2 ⟨rfl, g2⟩
  have G2 := hid g2
  clear g2 G1 H2
  have z1 := fun i => box_frz (tn_box G2.out) i
  have b0 := box_cellT (tn_box G2.out) 0 rfl
  have b1 := box_cellT (tn_box G2.out) 1 rfl
  have b2 := box_cellT (tn_box G2.out) 2 rfl
  have b3 := box_cellT (tn_box G2.out) 3 rfl
  have b4 := box_cellT (tn_box G2.out) 4 rfl
  have b5 := box_cellT (tn_box G2.out) 5 rfl
  go_wp2
  clear z1 b0 b1 b2 b3 b4 b5
  obtain ⟨HF, hk⟩ := ans_put (tn_box G2.out) (re) (rv) (0) (0) ⟨#[]⟩ (cb)
  have TZ := Things.boxes1 (ts := tnl x S1 ts) G2.out HF
  have k0 := hk 0 _ rfl
  have k1 := hk 1 _ rfl
  have k2 := hk 2 _ rfl
  have k3 := hk 3 _ rfl
  have k4 := hk 4 _ rfl
  have k5 := hk 5 _ rfl
  clear HF hk
  generalize (((((w2.setCell ⟨w.heap.size, 0, none⟩ (.int .i64 (re))).setCell ⟨w.heap.size, 1, none⟩ (.int .u64 (rv))).setCell ⟨w.heap.size, 2, none⟩ (.int .i64 (0))).setCell ⟨w.heap.size, 3, none⟩ (.int .i64 (0))).setCell ⟨w.heap.size, 4, none⟩ (.string ⟨#[]⟩)).setCell ⟨w.heap.size, 5, none⟩ (.int .i64 (cb)) = wz at *
  exact bodyPost_ret (v := ans (re) (rv) (0) (0) ⟨#[]⟩ (cb)) (by simp [results, Tryz.results22, go_sem, k0, k1, k2, k3, k4, k5]) rfl ⟨rfl, TZ⟩
set_option maxRecDepth 20000 in
theorem n_free_no (g : Things W w (tnl x S ts)) {b : Int} (b0 : 0 ≤ b) (b1 : b ≤ 18446744073709551615) (h : Ka.fiE S.c b 4 ≠ 0) : Calls Tryz.prog 20 #[.pointer (some ⟨x.T, 0, none⟩), .int .u64 b] w fun e w' => e = .returned (ans (Ka.fiE S.c b 4) 0 0 0 ⟨#[]⟩ S.s.cb) ∧ Things W w' (tnl x S ts) := by
  have G : Hid (Things W (w.alloc (.cells #[.int .i64 0, .int .u64 0, .int .i64 0, .int .i64 0, .string ⟨#[]⟩, .int .i64 0] 43)) (tnl x S (ts ++ [Blk w.heap.size (.cells #[.int .i64 0, .int .u64 0, .int .i64 0, .int .i64 0, .string ⟨#[]⟩, .int .i64 0] 43 (0, 0))]))) := g.blk (.cells #[.int .i64 0, .int .u64 0, .int .i64 0, .int .i64 0, .string ⟨#[]⟩, .int .i64 0] 43 (0, 0))
  have H1 := hid fun (w : World) (ts : List (World → (Nat → Prop) → Prop)) (g : Things W w (tnl x S ts)) => n_find (r := 4) g b0 b1 (by omega)
  have H2 := hid fun (w : World) (ts : List (World → (Nat → Prop) → Prop)) (E : Int) (g : Things W w (tnl x S ts)) => n_refuse g E
  generalize Ka.fiE S.c b 4 = fe at *
  generalize Ka.fiV S.c b 4 = fv at *
  generalize S.s.cb = cb at *
  clear g b0 b1
  go_enter Tryz.func20, Tryz.ntmps20
  go_wp2_with fail
  refine (H1.out _ _ G.out).mono ?_
  rintro e w1 ⟨rfl, g1⟩
  have G1 := hid g1
  clear g1 G H1
  go_wp2_with fail
  refine (H2.out _ _ _ G1.out).mono ?_
  rintro e w2 ⟨rfl, g2⟩
  have G2 := hid g2
  clear g2 G1 H2
  have z1 := fun i => box_frz (tn_box G2.out) i
  have b0 := box_cellT (tn_box G2.out) 0 rfl
  have b1 := box_cellT (tn_box G2.out) 1 rfl
  have b2 := box_cellT (tn_box G2.out) 2 rfl
  have b3 := box_cellT (tn_box G2.out) 3 rfl
  have b4 := box_cellT (tn_box G2.out) 4 rfl
  have b5 := box_cellT (tn_box G2.out) 5 rfl
  go_wp2
  clear z1 b0 b1 b2 b3 b4 b5
  obtain ⟨HF, hk⟩ := ans_put (tn_box G2.out) (fe) (0) (0) (0) ⟨#[]⟩ (cb)
  have TZ := Things.boxes1 (ts := tnl x S ts) G2.out HF
  have k0 := hk 0 _ rfl
  have k1 := hk 1 _ rfl
  have k2 := hk 2 _ rfl
  have k3 := hk 3 _ rfl
  have k4 := hk 4 _ rfl
  have k5 := hk 5 _ rfl
  clear HF hk
  generalize (((((w2.setCell ⟨w.heap.size, 0, none⟩ (.int .i64 (fe))).setCell ⟨w.heap.size, 1, none⟩ (.int .u64 (0))).setCell ⟨w.heap.size, 2, none⟩ (.int .i64 (0))).setCell ⟨w.heap.size, 3, none⟩ (.int .i64 (0))).setCell ⟨w.heap.size, 4, none⟩ (.string ⟨#[]⟩)).setCell ⟨w.heap.size, 5, none⟩ (.int .i64 (cb)) = wz at *
  exact bodyPost_ret (v := ans (fe) (0) (0) (0) ⟨#[]⟩ (cb)) (by simp [results, Tryz.results20, go_sem, k0, k1, k2, k3, k4, k5]) rfl ⟨rfl, TZ⟩
set_option maxRecDepth 20000 in
theorem n_free_ok (g : Things W w (tnl x S ts)) (gr : G17 W) (hc : Hc x.k S.M S.H) {b : Int} (b0 : 0 ≤ b) (b1 : b ≤ 18446744073709551615) (h : Ka.fiE S.c b 4 = 0) {kd s i E : Int} (hf : FindR (Ka.fiV S.c b 4) kd s i E) (ha : I64 (Ka.fiV S.c b 4)) {y : Int × Int} (hy : S.f (Ka.fiV S.c b 4) = some y) (r : Rt y.2 0) : Calls Tryz.prog 20 #[.pointer (some ⟨x.T, 0, none⟩), .int .u64 b] w fun e w' => e = .returned (ans 0 0 0 0 ⟨#[]⟩ (rlS S (Ka.fiV S.c b 4) kd s i E y.2).s.cb) ∧ Things W w' (tnl x (rlS S (Ka.fiV S.c b 4) kd s i E y.2) ts) := by
  have G : Hid (Things W (w.alloc (.cells #[.int .i64 0, .int .u64 0, .int .i64 0, .int .i64 0, .string ⟨#[]⟩, .int .i64 0] 43)) (tnl x S (ts ++ [Blk w.heap.size (.cells #[.int .i64 0, .int .u64 0, .int .i64 0, .int .i64 0, .string ⟨#[]⟩, .int .i64 0] 43 (0, 0))]))) := g.blk (.cells #[.int .i64 0, .int .u64 0, .int .i64 0, .int .i64 0, .string ⟨#[]⟩, .int .i64 0] 43 (0, 0))
  have H1 := hid fun (w : World) (ts : List (World → (Nat → Prop) → Prop)) (g : Things W w (tnl x S ts)) => n_find (r := 4) g b0 b1 (by omega)
  have H2 := hid fun (w : World) (ts : List (World → (Nat → Prop) → Prop)) (g : Things W w (tnl x S ts)) => n_release g gr hc hf ha hy r
  have H3 := hid fun (w : World) (ts : List (World → (Nat → Prop) → Prop)) (g : Things W w (tnl x (rlS S (Ka.fiV S.c b 4) kd s i E y.2) ts)) => n_say g 0 0 0 0 ⟨#[]⟩ 0
  rw [h] at H1
  generalize rlS S (Ka.fiV S.c b 4) kd s i E y.2 = S2 at *
  generalize Ka.fiV S.c b 4 = fv at *
  generalize S2.s.cb = cb at *
  clear g gr hc b0 b1 h hf ha hy r
  go_enter Tryz.func20, Tryz.ntmps20
  go_wp2_with fail
  refine (H1.out _ _ G.out).mono ?_
  rintro e w1 ⟨rfl, g1⟩
  have G1 := hid g1
  clear g1 G H1
  go_wp2_with fail
  refine (H2.out _ _ G1.out).mono ?_
  rintro e w2 ⟨rfl, g2⟩
  have G2 := hid g2
  clear g2 G1 H2
  go_wp2_with fail
  refine (H3.out _ _ G2.out).mono ?_
  rintro e w3 ⟨rfl, g3⟩
  have G3 := hid g3
  clear g3 G2 H3
  have z1 := fun i => box_frz (tn_box G3.out) i
  have b0 := box_cellT (tn_box G3.out) 0 rfl
  have b1 := box_cellT (tn_box G3.out) 1 rfl
  have b2 := box_cellT (tn_box G3.out) 2 rfl
  have b3 := box_cellT (tn_box G3.out) 3 rfl
  have b4 := box_cellT (tn_box G3.out) 4 rfl
  have b5 := box_cellT (tn_box G3.out) 5 rfl
  go_wp2
  clear z1 b0 b1 b2 b3 b4 b5
  obtain ⟨HF, hk⟩ := ans_put (tn_box G3.out) (0) (0) (0) (0) ⟨#[]⟩ (cb)
  have TZ := Things.boxes1 (ts := tnl x S2 ts) G3.out HF
  have k0 := hk 0 _ rfl
  have k1 := hk 1 _ rfl
  have k2 := hk 2 _ rfl
  have k3 := hk 3 _ rfl
  have k4 := hk 4 _ rfl
  have k5 := hk 5 _ rfl
  clear HF hk
  generalize (((((w3.setCell ⟨w.heap.size, 0, none⟩ (.int .i64 (0))).setCell ⟨w.heap.size, 1, none⟩ (.int .u64 (0))).setCell ⟨w.heap.size, 2, none⟩ (.int .i64 (0))).setCell ⟨w.heap.size, 3, none⟩ (.int .i64 (0))).setCell ⟨w.heap.size, 4, none⟩ (.string ⟨#[]⟩)).setCell ⟨w.heap.size, 5, none⟩ (.int .i64 (cb)) = wz at *
  exact bodyPost_ret (v := ans (0) (0) (0) (0) ⟨#[]⟩ (cb)) (by simp [results, Tryz.results20, go_sem, k0, k1, k2, k3, k4, k5]) rfl ⟨rfl, TZ⟩
set_option maxRecDepth 20000 in
theorem n_usable_no (g : Things W w (tnl x S ts)) {b : Int} (b0 : 0 ≤ b) (b1 : b ≤ 18446744073709551615) (h : Ka.fiE S.c b 0 ≠ 0) : Calls Tryz.prog 13 #[.pointer (some ⟨x.T, 0, none⟩), .int .u64 b] w fun e w' => e = .returned (ans (Ka.fiE S.c b 0) 0 0 0 ⟨#[]⟩ S.s.cb) ∧ Things W w' (tnl x S ts) := by
  have G : Hid (Things W (w.alloc (.cells #[.int .i64 0, .int .u64 0, .int .i64 0, .int .i64 0, .string ⟨#[]⟩, .int .i64 0] 43)) (tnl x S (ts ++ [Blk w.heap.size (.cells #[.int .i64 0, .int .u64 0, .int .i64 0, .int .i64 0, .string ⟨#[]⟩, .int .i64 0] 43 (0, 0))]))) := g.blk (.cells #[.int .i64 0, .int .u64 0, .int .i64 0, .int .i64 0, .string ⟨#[]⟩, .int .i64 0] 43 (0, 0))
  have H1 := hid fun (w : World) (ts : List (World → (Nat → Prop) → Prop)) (g : Things W w (tnl x S ts)) => n_find (r := 0) g b0 b1 (by omega)
  have H2 := hid fun (w : World) (ts : List (World → (Nat → Prop) → Prop)) (E : Int) (g : Things W w (tnl x S ts)) => n_refuse g E
  generalize Ka.fiE S.c b 0 = fe at *
  generalize Ka.fiV S.c b 0 = fv at *
  generalize S.s.cb = cb at *
  clear g b0 b1
  go_enter Tryz.func13, Tryz.ntmps13
  go_wp2_with fail
  refine (H1.out _ _ G.out).mono ?_
  rintro e w1 ⟨rfl, g1⟩
  have G1 := hid g1
  clear g1 G H1
  go_wp2_with fail
  refine (H2.out _ _ _ G1.out).mono ?_
  rintro e w2 ⟨rfl, g2⟩
  have G2 := hid g2
  clear g2 G1 H2
  have z1 := fun i => box_frz (tn_box G2.out) i
  have b0 := box_cellT (tn_box G2.out) 0 rfl
  have b1 := box_cellT (tn_box G2.out) 1 rfl
  have b2 := box_cellT (tn_box G2.out) 2 rfl
  have b3 := box_cellT (tn_box G2.out) 3 rfl
  have b4 := box_cellT (tn_box G2.out) 4 rfl
  have b5 := box_cellT (tn_box G2.out) 5 rfl
  go_wp2
  clear z1 b0 b1 b2 b3 b4 b5
  obtain ⟨HF, hk⟩ := ans_put (tn_box G2.out) (fe) (0) (0) (0) ⟨#[]⟩ (cb)
  have TZ := Things.boxes1 (ts := tnl x S ts) G2.out HF
  have k0 := hk 0 _ rfl
  have k1 := hk 1 _ rfl
  have k2 := hk 2 _ rfl
  have k3 := hk 3 _ rfl
  have k4 := hk 4 _ rfl
  have k5 := hk 5 _ rfl
  clear HF hk
  generalize (((((w2.setCell ⟨w.heap.size, 0, none⟩ (.int .i64 (fe))).setCell ⟨w.heap.size, 1, none⟩ (.int .u64 (0))).setCell ⟨w.heap.size, 2, none⟩ (.int .i64 (0))).setCell ⟨w.heap.size, 3, none⟩ (.int .i64 (0))).setCell ⟨w.heap.size, 4, none⟩ (.string ⟨#[]⟩)).setCell ⟨w.heap.size, 5, none⟩ (.int .i64 (cb)) = wz at *
  exact bodyPost_ret (v := ans (fe) (0) (0) (0) ⟨#[]⟩ (cb)) (by simp [results, Tryz.results13, go_sem, k0, k1, k2, k3, k4, k5]) rfl ⟨rfl, TZ⟩
set_option maxRecDepth 20000 in
theorem n_usable_ok (g : Things W w (tnl x S ts)) {b : Int} (b0 : 0 ≤ b) (b1 : b ≤ 18446744073709551615) (h : Ka.fiE S.c b 0 = 0) (ha : I64 (Ka.fiV S.c b 0)) {y : Int × Int} (hy : S.f (Ka.fiV S.c b 0) = some y) (r : Rt y.2 0) : Calls Tryz.prog 13 #[.pointer (some ⟨x.T, 0, none⟩), .int .u64 b] w fun e w' => e = .returned (ans 0 0 0 y.2 ⟨#[]⟩ S.s.cb) ∧ Things W w' (tnl x S ts) := by
  have HWF := hid (wf_small ha.1 ha.2)
  have G : Hid (Things W (w.alloc (.cells #[.int .i64 0, .int .u64 0, .int .i64 0, .int .i64 0, .string ⟨#[]⟩, .int .i64 0] 43)) (tnl x S (ts ++ [Blk w.heap.size (.cells #[.int .i64 0, .int .u64 0, .int .i64 0, .int .i64 0, .string ⟨#[]⟩, .int .i64 0] 43 (0, 0))]))) := g.blk (.cells #[.int .i64 0, .int .u64 0, .int .i64 0, .int .i64 0, .string ⟨#[]⟩, .int .i64 0] 43 (0, 0))
  have H1 := hid fun (w : World) (ts : List (World → (Nat → Prop) → Prop)) (g : Things W w (tnl x S ts)) => n_find (r := 0) g b0 b1 (by omega)
  have HL : Hid (∀ (w : World) (ts : List (World → (Nat → Prop) → Prop)), Things W w (tnl x S ts) → w.cell? ⟨x.T, 7, none⟩ = some (.map (some x.B)) ∧ (Instr.lookup 72 (.map (some x.B)) (.int .i64 (Ka.fiV S.c b 0)) false).run Tryz.prog w = .ok (.agg #[.int .i64 y.1, .complex .f64 (fb y.2) (fb 0)]) w) := fun w ts g => ⟨tn_cell g 7 rfl, (g.oo 3 rfl).look HWF.out hy⟩
  have H2 : Hid (∀ (w : World), Calls Tryz.prog 28 #[.complex .f64 (fb y.2) (fb 0)] w fun e w' => e = .returned (.int .i64 y.2) ∧ ∃ m, w' = w.drewN m) := fun w => s_bytes r w
  have H3 : Hid (∀ (w : World) (ts : List (World → (Nat → Prop) → Prop)) (n : Int), Things W w (tnl x S ts) → Calls Tryz.prog 32 #[.pointer (some ⟨x.T, 0, none⟩), ans 0 0 0 n ⟨#[]⟩ 0] w fun e w' => e = .returned (ans 0 0 0 n ⟨#[]⟩ S.s.cb) ∧ Things W w' (tnl x S ts)) := fun w ts n g => n_say g 0 0 0 n ⟨#[]⟩ 0
  have hfl := fun a b c w => (field_obj a b c w).1
  rw [h] at H1
  generalize Ka.fiV S.c b 0 = fv at *
  generalize S.s.cb = cb at *
  generalize y.2 = y2 at *
  generalize y.1 = y1 at *
  generalize fb y2 = xb at *
  generalize fb 0 = yb at *
  clear g b0 b1 h ha hy r
  go_enter Tryz.func13, Tryz.ntmps13
  go_wp2_with fail
  refine (H1.out _ _ G.out).mono ?_
  rintro e w1 ⟨rfl, g1⟩
  have G1 := hid g1
  obtain ⟨c7, hlk⟩ := HL.out _ _ g1
  clear g1 G H1 HL
  go_wp2_with fail
  refine (H2.out _).mono ?_
  rintro e w2 ⟨rfl, m2, rfl⟩
  have G2 := hid (G1.out.kept ((Fr.refl _ _).drewN m2))
  clear G1 H2 c7 hlk hfl
  go_wp2_with fail
  refine (H3.out _ _ _ G2.out).mono ?_
  rintro e w3 ⟨rfl, g3⟩
  have G3 := hid g3
  clear g3 G2 H3
  have z1 := fun i => box_frz (tn_box G3.out) i
  have b0 := box_cellT (tn_box G3.out) 0 rfl
  have b1 := box_cellT (tn_box G3.out) 1 rfl
  have b2 := box_cellT (tn_box G3.out) 2 rfl
  have b3 := box_cellT (tn_box G3.out) 3 rfl
  have b4 := box_cellT (tn_box G3.out) 4 rfl
  have b5 := box_cellT (tn_box G3.out) 5 rfl
  go_wp2
  clear z1 b0 b1 b2 b3 b4 b5
  obtain ⟨HF, hk⟩ := ans_put (tn_box G3.out) (0) (0) (0) (y2) ⟨#[]⟩ (cb)
  have TZ := Things.boxes1 (ts := tnl x S ts) G3.out HF
  have k0 := hk 0 _ rfl
  have k1 := hk 1 _ rfl
  have k2 := hk 2 _ rfl
  have k3 := hk 3 _ rfl
  have k4 := hk 4 _ rfl
  have k5 := hk 5 _ rfl
  clear HF hk
  generalize (((((w3.setCell ⟨w.heap.size, 0, none⟩ (.int .i64 (0))).setCell ⟨w.heap.size, 1, none⟩ (.int .u64 (0))).setCell ⟨w.heap.size, 2, none⟩ (.int .i64 (0))).setCell ⟨w.heap.size, 3, none⟩ (.int .i64 (y2))).setCell ⟨w.heap.size, 4, none⟩ (.string ⟨#[]⟩)).setCell ⟨w.heap.size, 5, none⟩ (.int .i64 (cb)) = wz at *
  exact bodyPost_ret (v := ans (0) (0) (0) (y2) ⟨#[]⟩ (cb)) (by simp [results, Tryz.results13, go_sem, k0, k1, k2, k3, k4, k5]) rfl ⟨rfl, TZ⟩
end
end Go.Proofs.YtndhbnhobhkmaaaGreatDoor

namespace Go.Proofs.YtndhbnhobhkmaaaGreatDoor
open Go.RowKit
open An

theorem y_tableH {a m h t k : Nat} {M : Ms} {H : Hp} {w : World} {U : Nat → Prop} (q : Hs a m h t k M H w U) : Calls Tryz.prog 40 #[.pointer (some ⟨h, 0, none⟩)] w fun e w' => e = .returned (.pointer (some ⟨t, 0, none⟩)) ∧ Fr (fun _ => False) w w' := y_table q
section
variable {W w : World} {x : Tp} {S : TnS} {ts : List (World → (Nat → Prop) → Prop)}
set_option maxRecDepth 20000 in
theorem n_reach_no (g : Things W w (tnl x S ts)) {b : Int} (b0 : 0 ≤ b) (b1 : b ≤ 18446744073709551615) {r : Int} (hr : -9223372036854775808 ≤ r ∧ r ≤ 9223372036854775807) (fr n : Int) (h : Ka.fiE S.c b r ≠ 0) : Calls Tryz.prog 38 #[.pointer (some ⟨x.T, 0, none⟩), .int .u64 b, .int .i64 r, .int .i64 fr, .int .i64 n] w fun e w' => e = .returned (.tuple #[.int .i64 0, .int .i64 (Ka.fiE S.c b r)]) ∧ Things W w' (tnl x S ts) := by
  have G := hid g
  have H1 := hid fun (w : World) (g : Things W w (tnl x S ts)) => n_find g b0 b1 hr
  generalize Ka.fiE S.c b r = fe at *
  generalize Ka.fiV S.c b r = fv at *
  clear g b0 b1 hr
  go_enter Tryz.func38, Tryz.ntmps38
  go_wp2_with fail
  refine (H1.out _ G.out).mono ?_
  rintro e w1 ⟨rfl, g1⟩
  have G1 := hid g1
  clear g1 G H1
  go_wp2
  go_ret2
  exact ⟨by simp, G1.out⟩
abbrev Inn (size fr n : Int) : Prop := 0 ≤ fr ∧ 0 ≤ n ∧ n ≤ size - fr
set_option maxRecDepth 20000 in
theorem n_reach (g : Things W w (tnl x S ts)) {b : Int} (b0 : 0 ≤ b) (b1 : b ≤ 18446744073709551615) {r : Int} (hr : -9223372036854775808 ≤ r ∧ r ≤ 9223372036854775807) {fr n : Int} (hfr : I64 fr) (h : Ka.fiE S.c b r = 0) (ha : 0 ≤ Ka.fiV S.c b r ∧ Ka.fiV S.c b r ≤ 4000000) {y : Int × Int} (hy : S.f (Ka.fiV S.c b r) = some y) (hs : 0 ≤ y.1 ∧ y.1 ≤ 8192) : Calls Tryz.prog 38 #[.pointer (some ⟨x.T, 0, none⟩), .int .u64 b, .int .i64 r, .int .i64 fr, .int .i64 n] w fun e w' => e = .returned (.tuple #[.int .i64 (if Inn y.1 fr n then Ka.fiV S.c b r + fr else 0), .int .i64 (if Inn y.1 fr n then 0 else 4)]) ∧ Things W w' (tnl x S ts) := by
  have HWF := hid (wf_small (x := Ka.fiV S.c b r) (by omega) (by omega))
  have G := hid g
  have H1 := hid fun (w : World) (g : Things W w (tnl x S ts)) => n_find g b0 b1 hr
  have HL : Hid (∀ (w : World), Things W w (tnl x S ts) → w.cell? ⟨x.T, 7, none⟩ = some (.map (some x.B)) ∧ (Instr.lookup 72 (.map (some x.B)) (.int .i64 (Ka.fiV S.c b r)) false).run Tryz.prog w = .ok (.agg #[.int .i64 y.1, .complex .f64 (fb y.2) (fb 0)]) w) := fun w g => ⟨tn_cell g 7 rfl, (g.oo 3 rfl).look HWF.out hy⟩
  have hfl := fun a b c w => (field_obj a b c w).2
  rw [h] at H1
  clear hy
  generalize Ka.fiV S.c b r = fv at *
  generalize y.1 = y1 at *
  generalize fb y.2 = xb at *
  generalize fb 0 = yb at *
  clear g b0 b1 h hr
  have h1 := hfr.1
  have h2 := hfr.2
  have h3 := hs.1
  have h4 := hs.2
  have h5 := ha.1
  have h6 := ha.2
  clear hfr hs ha
  have hk : Hid ((fr < 0 ∨ n < 0 ∨ y1 - fr < n) ↔ ¬ Inn y1 fr n) := ⟨fun h => by rintro ⟨i1, i2, i3⟩; omega, fun h => by
    by_cases j1 : fr < 0
    · exact .inl j1
    by_cases j2 : n < 0
    · exact .inr (.inl j2)
    by_cases j3 : y1 - fr < n
    · exact .inr (.inr j3)
    exact (h ⟨by omega, by omega, by omega⟩).elim⟩
  by_cases j1 : fr < 0
  · have hn := hk.out.1 (.inl j1)
    rw [if_neg hn, if_neg hn]
    clear hn hk
    go_enter Tryz.func38, Tryz.ntmps38
    go_wp2_with fail
    refine (H1.out _ G.out).mono ?_
    rintro e w1 ⟨rfl, g1⟩
    have G1 := hid g1
    obtain ⟨c7, hlk⟩ := HL.out _ g1
    clear g1 G H1 HL
    go_wp2
    go_ret2
    exact ⟨by simp, G1.out⟩
  by_cases j2 : n < 0
  · have hn := hk.out.1 (.inr (.inl j2))
    rw [if_neg hn, if_neg hn]
    clear hn hk
    go_enter Tryz.func38, Tryz.ntmps38
    go_wp2_with fail
    refine (H1.out _ G.out).mono ?_
    rintro e w1 ⟨rfl, g1⟩
    have G1 := hid g1
    obtain ⟨c7, hlk⟩ := HL.out _ g1
    clear g1 G H1 HL
    go_wp2
    go_ret2
    exact ⟨by simp, G1.out⟩
  by_cases j3 : y1 - fr < n
  · have hn := hk.out.1 (.inr (.inr j3))
    rw [if_neg hn, if_neg hn]
    clear hn hk
    go_enter Tryz.func38, Tryz.ntmps38
    go_wp2_with fail
    refine (H1.out _ G.out).mono ?_
    rintro e w1 ⟨rfl, g1⟩
    have G1 := hid g1
    obtain ⟨c7, hlk⟩ := HL.out _ g1
    clear g1 G H1 HL
    go_wp2
    go_ret2
    exact ⟨by simp, G1.out⟩
  · have hn : Inn y1 fr n := ⟨by omega, by omega, by omega⟩
    rw [if_pos hn, if_pos hn]
    clear hn hk
    go_enter Tryz.func38, Tryz.ntmps38
    go_wp2_with fail
    refine (H1.out _ G.out).mono ?_
    rintro e w1 ⟨rfl, g1⟩
    have G1 := hid g1
    obtain ⟨c7, hlk⟩ := HL.out _ g1
    clear g1 G H1 HL
    go_wp2
    go_ret2
    exact ⟨by simp, G1.out⟩
set_option maxRecDepth 20000 in
theorem n_read_no (g : Things W w (tnl x S ts)) {b fr av er : Int} {n : Int} (hr : ∀ (w : World) (ts : List (World → (Nat → Prop) → Prop)), Things W w (tnl x S ts) → Calls Tryz.prog 38 #[.pointer (some ⟨x.T, 0, none⟩), .int .u64 b, .int .i64 1, .int .i64 fr, .int .i64 n] w fun e w' => e = .returned (.tuple #[.int .i64 av, .int .i64 er]) ∧ Things W w' (tnl x S ts)) (he : er ≠ 0) : Calls Tryz.prog 17 #[.pointer (some ⟨x.T, 0, none⟩), .int .u64 b, .int .i64 fr, .int .i64 n] w fun e w' => e = .returned (ans er 0 0 0 ⟨#[]⟩ S.s.cb) ∧ Things W w' (tnl x S ts) := by
  have HR := hid hr
  have G : Hid (Things W (w.alloc (.cells #[.int .i64 0, .int .u64 0, .int .i64 0, .int .i64 0, .string ⟨#[]⟩, .int .i64 0] 43)) (tnl x S (ts ++ [Blk w.heap.size (.cells #[.int .i64 0, .int .u64 0, .int .i64 0, .int .i64 0, .string ⟨#[]⟩, .int .i64 0] 43 (0, 0))]))) := g.blk (.cells #[.int .i64 0, .int .u64 0, .int .i64 0, .int .i64 0, .string ⟨#[]⟩, .int .i64 0] 43 (0, 0))
  have H2 := hid fun (w : World) (ts : List (World → (Nat → Prop) → Prop)) (E : Int) (g : Things W w (tnl x S ts)) => n_refuse g E
  generalize S.s.cb = cb at *
  clear g hr
  go_enter Tryz.func17, Tryz.ntmps17
  go_wp2_with fail
  refine (HR.out _ _ G.out).mono ?_
  rintro e w1 ⟨rfl, g1⟩
  have G1 := hid g1
  clear g1 G HR
  go_wp2_with fail
  refine (H2.out _ _ _ G1.out).mono ?_
  rintro e w2 ⟨rfl, g2⟩
  have G2 := hid g2
  clear g2 G1 H2
  have z1 := fun i => box_frz (tn_box G2.out) i
  have b0 := box_cellT (tn_box G2.out) 0 rfl
  have b1 := box_cellT (tn_box G2.out) 1 rfl
  have b2 := box_cellT (tn_box G2.out) 2 rfl
  have b3 := box_cellT (tn_box G2.out) 3 rfl
  have b4 := box_cellT (tn_box G2.out) 4 rfl
  have b5 := box_cellT (tn_box G2.out) 5 rfl
  go_wp2
  clear z1 b0 b1 b2 b3 b4 b5
  obtain ⟨HF, hk⟩ := ans_put (tn_box G2.out) (er) (0) (0) (0) ⟨#[]⟩ (cb)
  have TZ := Things.boxes1 (ts := tnl x S ts) G2.out HF
  have k0 := hk 0 _ rfl
  have k1 := hk 1 _ rfl
  have k2 := hk 2 _ rfl
  have k3 := hk 3 _ rfl
  have k4 := hk 4 _ rfl
  have k5 := hk 5 _ rfl
  clear HF hk
  generalize (((((w2.setCell ⟨w.heap.size, 0, none⟩ (.int .i64 (er))).setCell ⟨w.heap.size, 1, none⟩ (.int .u64 (0))).setCell ⟨w.heap.size, 2, none⟩ (.int .i64 (0))).setCell ⟨w.heap.size, 3, none⟩ (.int .i64 (0))).setCell ⟨w.heap.size, 4, none⟩ (.string ⟨#[]⟩)).setCell ⟨w.heap.size, 5, none⟩ (.int .i64 (cb)) = wz at *
  exact bodyPost_ret (v := ans (er) (0) (0) (0) ⟨#[]⟩ (cb)) (by simp [results, Tryz.results17, go_sem, k0, k1, k2, k3, k4, k5]) rfl ⟨rfl, TZ⟩
set_option maxRecDepth 20000 in
theorem n_read_ok (g : Things W w (tnl x S ts)) (hc : Hc x.k S.M S.H) {b fr av n : Int} (hr : ∀ (w : World) (ts : List (World → (Nat → Prop) → Prop)), Things W w (tnl x S ts) → Calls Tryz.prog 38 #[.pointer (some ⟨x.T, 0, none⟩), .int .u64 b, .int .i64 1, .int .i64 fr, .int .i64 n] w fun e w' => e = .returned (.tuple #[.int .i64 av, .int .i64 0]) ∧ Things W w' (tnl x S ts)) (hv : I64 av) (hn : I64 n) (hn2 : n ≤ 16384) : Calls Tryz.prog 17 #[.pointer (some ⟨x.T, 0, none⟩), .int .u64 b, .int .i64 fr, .int .i64 n] w fun e w' => e = .returned (ans (vwE S.H.T S.M.bs.length av n) 0 0 0 ⟨(vrV S.H.T S.M.bs av n).toArray⟩ S.s.cb) ∧ Things W w' (tnl x { S with M := ⟨S.M.has, S.M.bs, vrT S.H.T S.M.bs.length S.M.ss av n⟩ } ts) := by
  have HR := hid hr
  have G : Hid (Things W (w.alloc (.cells #[.int .i64 0, .int .u64 0, .int .i64 0, .int .i64 0, .string ⟨#[]⟩, .int .i64 0] 43)) (tnl x S (ts ++ [Blk w.heap.size (.cells #[.int .i64 0, .int .u64 0, .int .i64 0, .int .i64 0, .string ⟨#[]⟩, .int .i64 0] 43 (0, 0))]))) := g.blk (.cells #[.int .i64 0, .int .u64 0, .int .i64 0, .int .i64 0, .string ⟨#[]⟩, .int .i64 0] 43 (0, 0))
  have HT : Hid (∀ (w : World) (ts : List (World → (Nat → Prop) → Prop)), Things W w (tnl x S ts) → (w.cell? ⟨x.T, 1, none⟩ = some (.pointer (some ⟨x.a, 0, none⟩)) ∧ w.cell? ⟨x.T, 3, none⟩ = some (.pointer (some ⟨x.h, 0, none⟩))) ∧ Calls Tryz.prog 40 #[.pointer (some ⟨x.h, 0, none⟩)] w fun e w' => e = .returned (.pointer (some ⟨x.t, 0, none⟩)) ∧ Things W w' (tnl x S ts)) := fun w ts g => ⟨⟨tn_cell g 1 rfl, tn_cell g 3 rfl⟩, g.ask 0 rfl fun _ p => y_tableH p⟩
  have HV : Hid (∀ (w : World) (ts : List (World → (Nat → Prop) → Prop)), Things W w (tnl x S ts) → Calls Tryz.prog 39 #[.pointer (some ⟨x.a, 0, none⟩), .pointer (some ⟨x.t, 0, none⟩), .int .i64 av, .int .i64 n] w fun e w' => e = .returned (.tuple #[.string ⟨(vrV S.H.T S.M.bs av n).toArray⟩, .int .i64 (vwE S.H.T S.M.bs.length av n)]) ∧ Things W w' (tnl x { S with M := ⟨S.M.has, S.M.bs, vrT S.H.T S.M.bs.length S.M.ss av n⟩ } ts)) := fun w ts g => kq_read g 0 rfl hc hv hn hn2
  have HX : Hid (∀ (w : World) (ts : List (World → (Nat → Prop) → Prop)), Things W w (tnl x { S with M := ⟨S.M.has, S.M.bs, vrT S.H.T S.M.bs.length S.M.ss av n⟩ } ts) → w.cell? ⟨x.T, 1, none⟩ = some (.pointer (some ⟨x.a, 0, none⟩)) ∧ w.cell? ⟨x.T, 3, none⟩ = some (.pointer (some ⟨x.h, 0, none⟩))) := fun w ts g => ⟨tn_cell g 1 rfl, tn_cell g 3 rfl⟩
  have H3 : Hid (∀ (w : World) (ts : List (World → (Nat → Prop) → Prop)) (E : Int) (d : ByteArray), Things W w (tnl x { S with M := ⟨S.M.has, S.M.bs, vrT S.H.T S.M.bs.length S.M.ss av n⟩ } ts) → Calls Tryz.prog 32 #[.pointer (some ⟨x.T, 0, none⟩), ans E 0 0 0 d 0] w fun e w' => e = .returned (ans E 0 0 0 d S.s.cb) ∧ Things W w' (tnl x { S with M := ⟨S.M.has, S.M.bs, vrT S.H.T S.M.bs.length S.M.ss av n⟩ } ts)) := fun w ts E d g => n_say g E 0 0 0 d 0
  generalize { S with M := ⟨S.M.has, S.M.bs, vrT S.H.T S.M.bs.length S.M.ss av n⟩ } = S1 at *
  generalize vwE S.H.T S.M.bs.length av n = ve at *
  generalize (⟨(vrV S.H.T S.M.bs av n).toArray⟩ : ByteArray) = vd at *
  generalize S.s.cb = cb at *
  clear g hr hc
  go_enter Tryz.func17, Tryz.ntmps17
  go_wp2_with fail
  refine (HR.out _ _ G.out).mono ?_
  rintro e w1 ⟨rfl, g1⟩
  have GD := hid (g1.kept (Fr.refl _ _).drew)
  obtain ⟨⟨d1, d3⟩, ht⟩ := HT.out _ _ GD.out
  have HTC := hid ht
  clear g1 G HR ht
  go_wp2_with fail
  go_region_held3 (fun w' => w'.cell? ⟨x.T, 1, none⟩ = some (.pointer (some ⟨x.a, 0, none⟩)) ∧ w'.cell? ⟨x.T, 3, none⟩ = some (.pointer (some ⟨x.h, 0, none⟩))) (first | exact ⟨by assumption, by assumption⟩ | go_keep) (first | (go_at_call 40; refine HTC.out.mono ?_; rintro e w2 ⟨rfl, g2⟩; have G2 := hid g2; obtain ⟨⟨e1, e3⟩, _⟩ := HT.out _ _ g2; clear g2) | (go_at_call 39; refine (HV.out _ _ G2.out).mono ?_; rintro e w3 ⟨rfl, g3⟩; have G3 := hid g3; obtain ⟨f1, f3⟩ := HX.out _ _ g3; clear g3))
  clear GD G2 HT HTC HV HX d1 d3 e1 e3 f1 f3
  go_wp2_with fail
  refine (H3.out _ _ _ _ G3.out).mono ?_
  rintro e w4 ⟨rfl, g4⟩
  have G4 := hid g4
  clear g4 G3 H3
  have z1 := fun i => box_frz (tn_box G4.out) i
  have b0 := box_cellT (tn_box G4.out) 0 rfl
  have b1 := box_cellT (tn_box G4.out) 1 rfl
  have b2 := box_cellT (tn_box G4.out) 2 rfl
  have b3 := box_cellT (tn_box G4.out) 3 rfl
  have b4 := box_cellT (tn_box G4.out) 4 rfl
  have b5 := box_cellT (tn_box G4.out) 5 rfl
  go_wp2
  clear z1 b0 b1 b2 b3 b4 b5
  obtain ⟨HF, hk⟩ := ans_put (tn_box G4.out) (ve) (0) (0) (0) vd (cb)
  have TZ := Things.boxes1 (ts := tnl x S1 ts) G4.out HF
  have k0 := hk 0 _ rfl
  have k1 := hk 1 _ rfl
  have k2 := hk 2 _ rfl
  have k3 := hk 3 _ rfl
  have k4 := hk 4 _ rfl
  have k5 := hk 5 _ rfl
  clear HF hk
  generalize (((((w4.setCell ⟨w.heap.size, 0, none⟩ (.int .i64 (ve))).setCell ⟨w.heap.size, 1, none⟩ (.int .u64 (0))).setCell ⟨w.heap.size, 2, none⟩ (.int .i64 (0))).setCell ⟨w.heap.size, 3, none⟩ (.int .i64 (0))).setCell ⟨w.heap.size, 4, none⟩ (.string vd)).setCell ⟨w.heap.size, 5, none⟩ (.int .i64 (cb)) = wz at *
  exact bodyPost_ret (v := ans (ve) (0) (0) (0) vd (cb)) (by simp [results, Tryz.results17, go_sem, k0, k1, k2, k3, k4, k5]) rfl ⟨rfl, TZ⟩
set_option maxRecDepth 20000 in
theorem n_write_no (g : Things W w (tnl x S ts)) {b fr av er : Int} {d : ByteArray} (hr : ∀ (w : World) (ts : List (World → (Nat → Prop) → Prop)), Things W w (tnl x S ts) → Calls Tryz.prog 38 #[.pointer (some ⟨x.T, 0, none⟩), .int .u64 b, .int .i64 2, .int .i64 fr, .int .i64 d.size] w fun e w' => e = .returned (.tuple #[.int .i64 av, .int .i64 er]) ∧ Things W w' (tnl x S ts)) (he : er ≠ 0) : Calls Tryz.prog 19 #[.pointer (some ⟨x.T, 0, none⟩), .int .u64 b, .int .i64 fr, .string d] w fun e w' => e = .returned (ans er 0 0 0 ⟨#[]⟩ S.s.cb) ∧ Things W w' (tnl x S ts) := by
  have HR := hid hr
  have G : Hid (Things W (w.alloc (.cells #[.int .i64 0, .int .u64 0, .int .i64 0, .int .i64 0, .string ⟨#[]⟩, .int .i64 0] 43)) (tnl x S (ts ++ [Blk w.heap.size (.cells #[.int .i64 0, .int .u64 0, .int .i64 0, .int .i64 0, .string ⟨#[]⟩, .int .i64 0] 43 (0, 0))]))) := g.blk (.cells #[.int .i64 0, .int .u64 0, .int .i64 0, .int .i64 0, .string ⟨#[]⟩, .int .i64 0] 43 (0, 0))
  have H2 := hid fun (w : World) (ts : List (World → (Nat → Prop) → Prop)) (E : Int) (g : Things W w (tnl x S ts)) => n_refuse g E
  generalize S.s.cb = cb at *
  clear g hr
  go_enter Tryz.func19, Tryz.ntmps19
  go_wp2_with fail
  refine (HR.out _ _ G.out).mono ?_
  rintro e w1 ⟨rfl, g1⟩
  have G1 := hid g1
  clear g1 G HR
  go_wp2_with fail
  refine (H2.out _ _ _ G1.out).mono ?_
  rintro e w2 ⟨rfl, g2⟩
  have G2 := hid g2
  clear g2 G1 H2
  have z1 := fun i => box_frz (tn_box G2.out) i
  have b0 := box_cellT (tn_box G2.out) 0 rfl
  have b1 := box_cellT (tn_box G2.out) 1 rfl
  have b2 := box_cellT (tn_box G2.out) 2 rfl
  have b3 := box_cellT (tn_box G2.out) 3 rfl
  have b4 := box_cellT (tn_box G2.out) 4 rfl
  have b5 := box_cellT (tn_box G2.out) 5 rfl
  go_wp2
  clear z1 b0 b1 b2 b3 b4 b5
  obtain ⟨HF, hk⟩ := ans_put (tn_box G2.out) (er) (0) (0) (0) ⟨#[]⟩ (cb)
  have TZ := Things.boxes1 (ts := tnl x S ts) G2.out HF
  have k0 := hk 0 _ rfl
  have k1 := hk 1 _ rfl
  have k2 := hk 2 _ rfl
  have k3 := hk 3 _ rfl
  have k4 := hk 4 _ rfl
  have k5 := hk 5 _ rfl
  clear HF hk
  generalize (((((w2.setCell ⟨w.heap.size, 0, none⟩ (.int .i64 (er))).setCell ⟨w.heap.size, 1, none⟩ (.int .u64 (0))).setCell ⟨w.heap.size, 2, none⟩ (.int .i64 (0))).setCell ⟨w.heap.size, 3, none⟩ (.int .i64 (0))).setCell ⟨w.heap.size, 4, none⟩ (.string ⟨#[]⟩)).setCell ⟨w.heap.size, 5, none⟩ (.int .i64 (cb)) = wz at *
  exact bodyPost_ret (v := ans (er) (0) (0) (0) ⟨#[]⟩ (cb)) (by simp [results, Tryz.results19, go_sem, k0, k1, k2, k3, k4, k5]) rfl ⟨rfl, TZ⟩
set_option maxRecDepth 20000 in
theorem n_write_ok (g : Things W w (tnl x S ts)) (hc : Hc x.k S.M S.H) {b fr av : Int} {d : ByteArray} (hr : ∀ (w : World) (ts : List (World → (Nat → Prop) → Prop)), Things W w (tnl x S ts) → Calls Tryz.prog 38 #[.pointer (some ⟨x.T, 0, none⟩), .int .u64 b, .int .i64 2, .int .i64 fr, .int .i64 d.size] w fun e w' => e = .returned (.tuple #[.int .i64 av, .int .i64 0]) ∧ Things W w' (tnl x S ts)) (hv : I64 av) (hn2 : d.size ≤ 16384) : Calls Tryz.prog 19 #[.pointer (some ⟨x.T, 0, none⟩), .int .u64 b, .int .i64 fr, .string d] w fun e w' => e = .returned (ans (vwE S.H.T S.M.bs.length av d.size) 0 0 0 ⟨#[]⟩ S.s.cb) ∧ Things W w' (tnl x { S with M := ⟨S.M.has, vwB S.H.T S.M.bs av d.data.toList, vwT S.H.T S.M.bs.length S.M.ss av d.size⟩ } ts) := by
  have HR := hid hr
  have G : Hid (Things W (w.alloc (.cells #[.int .i64 0, .int .u64 0, .int .i64 0, .int .i64 0, .string ⟨#[]⟩, .int .i64 0] 43)) (tnl x S (ts ++ [Blk w.heap.size (.cells #[.int .i64 0, .int .u64 0, .int .i64 0, .int .i64 0, .string ⟨#[]⟩, .int .i64 0] 43 (0, 0))]))) := g.blk (.cells #[.int .i64 0, .int .u64 0, .int .i64 0, .int .i64 0, .string ⟨#[]⟩, .int .i64 0] 43 (0, 0))
  have HT : Hid (∀ (w : World) (ts : List (World → (Nat → Prop) → Prop)), Things W w (tnl x S ts) → (w.cell? ⟨x.T, 1, none⟩ = some (.pointer (some ⟨x.a, 0, none⟩)) ∧ w.cell? ⟨x.T, 3, none⟩ = some (.pointer (some ⟨x.h, 0, none⟩))) ∧ Calls Tryz.prog 40 #[.pointer (some ⟨x.h, 0, none⟩)] w fun e w' => e = .returned (.pointer (some ⟨x.t, 0, none⟩)) ∧ Things W w' (tnl x S ts)) := fun w ts g => ⟨⟨tn_cell g 1 rfl, tn_cell g 3 rfl⟩, g.ask 0 rfl fun _ p => y_tableH p⟩
  have HV : Hid (∀ (w : World) (ts : List (World → (Nat → Prop) → Prop)), Things W w (tnl x S ts) → Calls Tryz.prog 43 #[.pointer (some ⟨x.a, 0, none⟩), .pointer (some ⟨x.t, 0, none⟩), .int .i64 av, .string d] w fun e w' => e = .returned (.int .i64 (vwE S.H.T S.M.bs.length av d.size)) ∧ Things W w' (tnl x { S with M := ⟨S.M.has, vwB S.H.T S.M.bs av d.data.toList, vwT S.H.T S.M.bs.length S.M.ss av d.size⟩ } ts)) := fun w ts g => kq_write g 0 rfl hc hv d hn2
  have HX : Hid (∀ (w : World) (ts : List (World → (Nat → Prop) → Prop)), Things W w (tnl x { S with M := ⟨S.M.has, vwB S.H.T S.M.bs av d.data.toList, vwT S.H.T S.M.bs.length S.M.ss av d.size⟩ } ts) → w.cell? ⟨x.T, 1, none⟩ = some (.pointer (some ⟨x.a, 0, none⟩)) ∧ w.cell? ⟨x.T, 3, none⟩ = some (.pointer (some ⟨x.h, 0, none⟩))) := fun w ts g => ⟨tn_cell g 1 rfl, tn_cell g 3 rfl⟩
  have H3 : Hid (∀ (w : World) (ts : List (World → (Nat → Prop) → Prop)) (E : Int), Things W w (tnl x { S with M := ⟨S.M.has, vwB S.H.T S.M.bs av d.data.toList, vwT S.H.T S.M.bs.length S.M.ss av d.size⟩ } ts) → Calls Tryz.prog 32 #[.pointer (some ⟨x.T, 0, none⟩), ans E 0 0 0 ⟨#[]⟩ 0] w fun e w' => e = .returned (ans E 0 0 0 ⟨#[]⟩ S.s.cb) ∧ Things W w' (tnl x { S with M := ⟨S.M.has, vwB S.H.T S.M.bs av d.data.toList, vwT S.H.T S.M.bs.length S.M.ss av d.size⟩ } ts)) := fun w ts E g => n_say g E 0 0 0 ⟨#[]⟩ 0
  generalize { S with M := ⟨S.M.has, vwB S.H.T S.M.bs av d.data.toList, vwT S.H.T S.M.bs.length S.M.ss av d.size⟩ } = S1 at *
  generalize vwE S.H.T S.M.bs.length av d.size = ve at *
  generalize S.s.cb = cb at *
  clear g hr hc
  go_enter Tryz.func19, Tryz.ntmps19
  go_wp2_with fail
  refine (HR.out _ _ G.out).mono ?_
  rintro e w1 ⟨rfl, g1⟩
  have GD := hid (g1.kept (Fr.refl _ _).drew)
  obtain ⟨⟨d1, d3⟩, ht⟩ := HT.out _ _ GD.out
  have HTC := hid ht
  clear g1 G HR ht
  go_wp2_with fail
  go_region_held3 (fun w' => w'.cell? ⟨x.T, 1, none⟩ = some (.pointer (some ⟨x.a, 0, none⟩)) ∧ w'.cell? ⟨x.T, 3, none⟩ = some (.pointer (some ⟨x.h, 0, none⟩))) (first | exact ⟨by assumption, by assumption⟩ | go_keep) (first | (go_at_call 40; refine HTC.out.mono ?_; rintro e w2 ⟨rfl, g2⟩; have G2 := hid g2; obtain ⟨⟨e1, e3⟩, _⟩ := HT.out _ _ g2; clear g2) | (go_at_call 43; refine (HV.out _ _ G2.out).mono ?_; rintro e w3 ⟨rfl, g3⟩; have G3 := hid g3; obtain ⟨f1, f3⟩ := HX.out _ _ g3; clear g3))
  clear GD G2 HT HTC HV HX d1 d3 e1 e3 f1 f3
  go_wp2_with fail
  refine (H3.out _ _ _ G3.out).mono ?_
  rintro e w4 ⟨rfl, g4⟩
  have G4 := hid g4
  clear g4 G3 H3
  have z1 := fun i => box_frz (tn_box G4.out) i
  have b0 := box_cellT (tn_box G4.out) 0 rfl
  have b1 := box_cellT (tn_box G4.out) 1 rfl
  have b2 := box_cellT (tn_box G4.out) 2 rfl
  have b3 := box_cellT (tn_box G4.out) 3 rfl
  have b4 := box_cellT (tn_box G4.out) 4 rfl
  have b5 := box_cellT (tn_box G4.out) 5 rfl
  go_wp2
  clear z1 b0 b1 b2 b3 b4 b5
  obtain ⟨HF, hk⟩ := ans_put (tn_box G4.out) (ve) (0) (0) (0) ⟨#[]⟩ (cb)
  have TZ := Things.boxes1 (ts := tnl x S1 ts) G4.out HF
  have k0 := hk 0 _ rfl
  have k1 := hk 1 _ rfl
  have k2 := hk 2 _ rfl
  have k3 := hk 3 _ rfl
  have k4 := hk 4 _ rfl
  have k5 := hk 5 _ rfl
  clear HF hk
  generalize (((((w4.setCell ⟨w.heap.size, 0, none⟩ (.int .i64 (ve))).setCell ⟨w.heap.size, 1, none⟩ (.int .u64 (0))).setCell ⟨w.heap.size, 2, none⟩ (.int .i64 (0))).setCell ⟨w.heap.size, 3, none⟩ (.int .i64 (0))).setCell ⟨w.heap.size, 4, none⟩ (.string ⟨#[]⟩)).setCell ⟨w.heap.size, 5, none⟩ (.int .i64 (cb)) = wz at *
  exact bodyPost_ret (v := ans (ve) (0) (0) (0) ⟨#[]⟩ (cb)) (by simp [results, Tryz.results19, go_sem, k0, k1, k2, k3, k4, k5]) rfl ⟨rfl, TZ⟩
end
end Go.Proofs.YtndhbnhobhkmaaaGreatDoor
