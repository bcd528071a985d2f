/-
  The laws' own 'call', of a tenant that keeps its word.
-/
import Derived.Test.YtndhbnhobhkmaaaGreatDoorTnCallsJ
import Derived.Deep.RegionHeld3
namespace Go.Proofs.YtndhbnhobhkmaaaGreatDoor
open Go.RowKit
open An

def CallR (W : World) (x : Tp) (ts : List (World → (Nat → Prop) → Prop)) (b : Nat) (P : Int → Int → Prop) (e : Ending) (w' : World) : Prop := ∃ x' S' E hd av nn d cg, TnOk x' S' (b + 1536) ∧ x'.T = x.T ∧ U64 hd ∧ P E hd ∧ e = .returned (ans E hd av nn d cg) ∧ Things W w' (tnl x' S' ts)
theorem tn_put {W w : World} {x : Tp} {S : TnS} {ts : List (World → (Nat → Prop) → Prop)} (g : Things W w (tnl x S ts)) (ob : Obj) : Things W (w.alloc ob) (tnl x S (Blk w.heap.size ob :: ts)) := Things.rot [Hs x.a x.m x.h x.t x.k S.M S.H, Kc x.c S.c, Qq x.q S.s, Ot x.B S.f S.n, Blk x.T (tob x)] ts (g.blk ob)
theorem u64_0 : U64 0 := by unfold U64; omega
section
variable {W w : World} {x : Tp} {S : TnS} {ts : List (World → (Nat → Prop) → Prop)} {b : Nat} {n m pk tu hh : Int} {d : ByteArray} {ad : Option Addr} {cap : Nat} {W0 : List Int}
set_option maxRecDepth 20000 in
set_option maxHeartbeats 4000000 in
theorem call_ok1 (g : Things W w (tnl x S ts)) (_gr : G17 W) (h : TnOk x S b) (_hb : b ≤ 700000) (_h0 : U64 hh) (_hn : I64 n) (_hm : I64 m) : Calls Tryz.prog 14 #[.pointer (some ⟨x.T, 0, none⟩), .agg #[.int .i64 1, .int .i64 n, .int .i64 m, .int .i64 pk, .int .u64 tu, .string d, .slice ad W0.length cap], .int .u64 hh] w (CallR W x ts b (fun _ _ => True)) := by
  have G : Hid (Things W ((w.alloc (.cells #[.int .i64 1, .int .i64 n, .int .i64 m, .int .i64 pk, .int .u64 tu, .string d, .slice ad W0.length cap] 39)).alloc (.cells #[.int .i64 0, .int .u64 0, .int .i64 0, .int .i64 0, .string ⟨#[]⟩, .int .i64 0] 43)) (tnl x S ((Blk w.heap.size (.cells #[.int .i64 1, .int .i64 n, .int .i64 m, .int .i64 pk, .int .u64 tu, .string d, .slice ad W0.length cap] 39 (0, 0)) :: ts) ++ [Blk (w.heap.size + 1) (.cells #[.int .i64 0, .int .u64 0, .int .i64 0, .int .i64 0, .string ⟨#[]⟩, .int .i64 0] 43 (0, 0))]))) := by
    have h := (tn_put g (.cells #[.int .i64 1, .int .i64 n, .int .i64 m, .int .i64 pk, .int .u64 tu, .string d, .slice ad W0.length cap] 39)).blk (.cells #[.int .i64 0, .int .u64 0, .int .i64 0, .int .i64 0, .string ⟨#[]⟩, .int .i64 0] 43)
    rw [World.size_alloc] at h
    exact h
  have HX : Hid (∀ (x' : Tp) (S' : TnS) (E hd av nn : Int) (dd : ByteArray) (cg : Int) (w' : World), (TnOk x' S' (b + 1536) ∧ x'.T = x.T ∧ U64 hd ∧ (fun _ _ => True) E hd) → Things W w' (tnl x' S' ts) → CallR W x ts b (fun _ _ => True) (.returned (ans E hd av nn dd cg)) w') := fun x' S' E hd av nn dd cg w' ⟨a1, a2, a3, a4⟩ g' => ⟨x', S', E, hd, av, nn, dd, cg, a1, a2, a3, a4, rfl, g'⟩
  have H1 : Hid (∀ (w : World) (ts : List (World → (Nat → Prop) → Prop)), Things W w (tnl x S ts) → Calls Tryz.prog 26 #[.pointer (some ⟨x.T, 0, none⟩), .int .i64 n] w (CallR W x ts b (fun _ _ => True))) := fun w ts g => (st_malloc g _gr h _hn).mono fun e w' ⟨he, g'⟩ => ⟨x, _, _, _, _, _, _, _, (h.mall (by omega) n).less (by omega), rfl, by unfold mlH; split <;> first | exact grV_u .. | exact u64_0, trivial, he, g'⟩
  clear g _gr h _hb _h0 _hn _hm
  generalize W0.length = wl at *
  generalize usN S hh = us at *
  go_enter Tryz.func14, Tryz.ntmps14
  go_wp2_with fail
  refine (H1.out _ _ G.out).mono ?_
  rintro e w1 ⟨x', S', E, hd, av, nn, dd, cg, a1, a2, a3, a4, rfl, g1⟩
  have G1 := hid g1
  have HK := hid (And.intro a1 (And.intro a2 (And.intro a3 a4)))
  clear g1 G H1 a1 a2 a3 a4
  have z1 := fun i => box_frz (tn_box G1.out) i
  have b0 := box_cellT (tn_box G1.out) 0 rfl
  have b1 := box_cellT (tn_box G1.out) 1 rfl
  have b2 := box_cellT (tn_box G1.out) 2 rfl
  have b3 := box_cellT (tn_box G1.out) 3 rfl
  have b4 := box_cellT (tn_box G1.out) 4 rfl
  have b5 := box_cellT (tn_box G1.out) 5 rfl
  go_wp2
  clear z1 b0 b1 b2 b3 b4 b5
  obtain ⟨HF, hk⟩ := ans_put (tn_box G1.out) (E) (hd) (av) (nn) dd (cg)
  have TZ := Things.boxes1 (ts := tnl x' S' (Blk w.heap.size (.cells #[.int .i64 1, .int .i64 n, .int .i64 m, .int .i64 pk, .int .u64 tu, .string d, .slice ad wl cap] 39 (0, 0)) :: ts)) G1.out HF
  have k0 := hk 0 _ rfl
  have k1 := hk 1 _ rfl
  have k2 := hk 2 _ rfl
  have k3 := hk 3 _ rfl
  have k4 := hk 4 _ rfl
  have k5 := hk 5 _ rfl
  clear HF hk
  generalize (((((w1.setCell ⟨w.heap.size + 1, 0, none⟩ (.int .i64 (E))).setCell ⟨w.heap.size + 1, 1, none⟩ (.int .u64 (hd))).setCell ⟨w.heap.size + 1, 2, none⟩ (.int .i64 (av))).setCell ⟨w.heap.size + 1, 3, none⟩ (.int .i64 (nn))).setCell ⟨w.heap.size + 1, 4, none⟩ (.string dd)).setCell ⟨w.heap.size + 1, 5, none⟩ (.int .i64 (cg)) = wz at *
  exact bodyPost_ret (v := ans (E) (hd) (av) (nn) dd (cg)) (by simp [results, Tryz.results14, go_sem, k0, k1, k2, k3, k4, k5]) rfl (HX.out _ _ _ _ _ _ _ _ _ HK.out (tn_tail TZ))
set_option maxRecDepth 20000 in
set_option maxHeartbeats 4000000 in
theorem call_ok2 (g : Things W w (tnl x S ts)) (_gr : G17 W) (h : TnOk x S b) (_hb : b ≤ 700000) (_h0 : U64 hh) (_hn : I64 n) (_hm : I64 m) : Calls Tryz.prog 14 #[.pointer (some ⟨x.T, 0, none⟩), .agg #[.int .i64 2, .int .i64 n, .int .i64 m, .int .i64 pk, .int .u64 tu, .string d, .slice ad W0.length cap], .int .u64 hh] w (CallR W x ts b (fun _ _ => True)) := by
  have G : Hid (Things W ((w.alloc (.cells #[.int .i64 2, .int .i64 n, .int .i64 m, .int .i64 pk, .int .u64 tu, .string d, .slice ad W0.length cap] 39)).alloc (.cells #[.int .i64 0, .int .u64 0, .int .i64 0, .int .i64 0, .string ⟨#[]⟩, .int .i64 0] 43)) (tnl x S ((Blk w.heap.size (.cells #[.int .i64 2, .int .i64 n, .int .i64 m, .int .i64 pk, .int .u64 tu, .string d, .slice ad W0.length cap] 39 (0, 0)) :: ts) ++ [Blk (w.heap.size + 1) (.cells #[.int .i64 0, .int .u64 0, .int .i64 0, .int .i64 0, .string ⟨#[]⟩, .int .i64 0] 43 (0, 0))]))) := by
    have h := (tn_put g (.cells #[.int .i64 2, .int .i64 n, .int .i64 m, .int .i64 pk, .int .u64 tu, .string d, .slice ad W0.length cap] 39)).blk (.cells #[.int .i64 0, .int .u64 0, .int .i64 0, .int .i64 0, .string ⟨#[]⟩, .int .i64 0] 43)
    rw [World.size_alloc] at h
    exact h
  have HX : Hid (∀ (x' : Tp) (S' : TnS) (E hd av nn : Int) (dd : ByteArray) (cg : Int) (w' : World), (TnOk x' S' (b + 1536) ∧ x'.T = x.T ∧ U64 hd ∧ (fun _ _ => True) E hd) → Things W w' (tnl x' S' ts) → CallR W x ts b (fun _ _ => True) (.returned (ans E hd av nn dd cg)) w') := fun x' S' E hd av nn dd cg w' ⟨a1, a2, a3, a4⟩ g' => ⟨x', S', E, hd, av, nn, dd, cg, a1, a2, a3, a4, rfl, g'⟩
  have H1 : Hid (∀ (w : World) (ts : List (World → (Nat → Prop) → Prop)), Things W w (tnl x S ts) → Calls Tryz.prog 33 #[.pointer (some ⟨x.T, 0, none⟩), .int .i64 n, .int .i64 m] w (CallR W x ts b (fun _ _ => True))) := fun w ts g => (st_calloc g _gr h (by omega) _hn _hm).mono fun e w' ⟨S', _, _, _, k, u, he, g'⟩ => ⟨x, S', _, _, _, _, _, _, k.less (by omega), rfl, u, trivial, he, g'⟩
  clear g _gr h _hb _h0 _hn _hm
  generalize W0.length = wl at *
  generalize usN S hh = us at *
  go_enter Tryz.func14, Tryz.ntmps14
  go_wp2_with fail
  refine (H1.out _ _ G.out).mono ?_
  rintro e w1 ⟨x', S', E, hd, av, nn, dd, cg, a1, a2, a3, a4, rfl, g1⟩
  have G1 := hid g1
  have HK := hid (And.intro a1 (And.intro a2 (And.intro a3 a4)))
  clear g1 G H1 a1 a2 a3 a4
  have z1 := fun i => box_frz (tn_box G1.out) i
  have b0 := box_cellT (tn_box G1.out) 0 rfl
  have b1 := box_cellT (tn_box G1.out) 1 rfl
  have b2 := box_cellT (tn_box G1.out) 2 rfl
  have b3 := box_cellT (tn_box G1.out) 3 rfl
  have b4 := box_cellT (tn_box G1.out) 4 rfl
  have b5 := box_cellT (tn_box G1.out) 5 rfl
  go_wp2
  clear z1 b0 b1 b2 b3 b4 b5
  obtain ⟨HF, hk⟩ := ans_put (tn_box G1.out) (E) (hd) (av) (nn) dd (cg)
  have TZ := Things.boxes1 (ts := tnl x' S' (Blk w.heap.size (.cells #[.int .i64 2, .int .i64 n, .int .i64 m, .int .i64 pk, .int .u64 tu, .string d, .slice ad wl cap] 39 (0, 0)) :: ts)) G1.out HF
  have k0 := hk 0 _ rfl
  have k1 := hk 1 _ rfl
  have k2 := hk 2 _ rfl
  have k3 := hk 3 _ rfl
  have k4 := hk 4 _ rfl
  have k5 := hk 5 _ rfl
  clear HF hk
  generalize (((((w1.setCell ⟨w.heap.size + 1, 0, none⟩ (.int .i64 (E))).setCell ⟨w.heap.size + 1, 1, none⟩ (.int .u64 (hd))).setCell ⟨w.heap.size + 1, 2, none⟩ (.int .i64 (av))).setCell ⟨w.heap.size + 1, 3, none⟩ (.int .i64 (nn))).setCell ⟨w.heap.size + 1, 4, none⟩ (.string dd)).setCell ⟨w.heap.size + 1, 5, none⟩ (.int .i64 (cg)) = wz at *
  exact bodyPost_ret (v := ans (E) (hd) (av) (nn) dd (cg)) (by simp [results, Tryz.results14, go_sem, k0, k1, k2, k3, k4, k5]) rfl (HX.out _ _ _ _ _ _ _ _ _ HK.out (tn_tail TZ))
set_option maxRecDepth 20000 in
set_option maxHeartbeats 4000000 in
theorem call_ok3 (g : Things W w (tnl x S ts)) (_gr : G17 W) (h : TnOk x S b) (_hb : b ≤ 700000) (_h0 : U64 hh) (_hn : I64 n) (_hm : I64 m) : Calls Tryz.prog 14 #[.pointer (some ⟨x.T, 0, none⟩), .agg #[.int .i64 3, .int .i64 n, .int .i64 m, .int .i64 pk, .int .u64 tu, .string d, .slice ad W0.length cap], .int .u64 hh] w (CallR W x ts b (fun _ _ => True)) := by
  have G : Hid (Things W ((w.alloc (.cells #[.int .i64 3, .int .i64 n, .int .i64 m, .int .i64 pk, .int .u64 tu, .string d, .slice ad W0.length cap] 39)).alloc (.cells #[.int .i64 0, .int .u64 0, .int .i64 0, .int .i64 0, .string ⟨#[]⟩, .int .i64 0] 43)) (tnl x S ((Blk w.heap.size (.cells #[.int .i64 3, .int .i64 n, .int .i64 m, .int .i64 pk, .int .u64 tu, .string d, .slice ad W0.length cap] 39 (0, 0)) :: ts) ++ [Blk (w.heap.size + 1) (.cells #[.int .i64 0, .int .u64 0, .int .i64 0, .int .i64 0, .string ⟨#[]⟩, .int .i64 0] 43 (0, 0))]))) := by
    have h := (tn_put g (.cells #[.int .i64 3, .int .i64 n, .int .i64 m, .int .i64 pk, .int .u64 tu, .string d, .slice ad W0.length cap] 39)).blk (.cells #[.int .i64 0, .int .u64 0, .int .i64 0, .int .i64 0, .string ⟨#[]⟩, .int .i64 0] 43)
    rw [World.size_alloc] at h
    exact h
  have HX : Hid (∀ (x' : Tp) (S' : TnS) (E hd av nn : Int) (dd : ByteArray) (cg : Int) (w' : World), (TnOk x' S' (b + 1536) ∧ x'.T = x.T ∧ U64 hd ∧ (fun _ _ => True) E hd) → Things W w' (tnl x' S' ts) → CallR W x ts b (fun _ _ => True) (.returned (ans E hd av nn dd cg)) w') := fun x' S' E hd av nn dd cg w' ⟨a1, a2, a3, a4⟩ g' => ⟨x', S', E, hd, av, nn, dd, cg, a1, a2, a3, a4, rfl, g'⟩
  have H1 : Hid (∀ (w : World) (ts : List (World → (Nat → Prop) → Prop)), Things W w (tnl x S ts) → Calls Tryz.prog 20 #[.pointer (some ⟨x.T, 0, none⟩), .int .u64 hh] w (CallR W x ts b (fun _ _ => True))) := fun w ts g => (st_free g _gr h (by omega) _h0).mono fun e w' ⟨S', _, k, he, g'⟩ => ⟨x, S', _, _, _, _, _, _, k.less (by omega), rfl, u64_0, trivial, he, g'⟩
  clear g _gr h _hb _h0 _hn _hm
  generalize W0.length = wl at *
  generalize usN S hh = us at *
  go_enter Tryz.func14, Tryz.ntmps14
  go_wp2_with fail
  refine (H1.out _ _ G.out).mono ?_
  rintro e w1 ⟨x', S', E, hd, av, nn, dd, cg, a1, a2, a3, a4, rfl, g1⟩
  have G1 := hid g1
  have HK := hid (And.intro a1 (And.intro a2 (And.intro a3 a4)))
  clear g1 G H1 a1 a2 a3 a4
  have z1 := fun i => box_frz (tn_box G1.out) i
  have b0 := box_cellT (tn_box G1.out) 0 rfl
  have b1 := box_cellT (tn_box G1.out) 1 rfl
  have b2 := box_cellT (tn_box G1.out) 2 rfl
  have b3 := box_cellT (tn_box G1.out) 3 rfl
  have b4 := box_cellT (tn_box G1.out) 4 rfl
  have b5 := box_cellT (tn_box G1.out) 5 rfl
  go_wp2
  clear z1 b0 b1 b2 b3 b4 b5
  obtain ⟨HF, hk⟩ := ans_put (tn_box G1.out) (E) (hd) (av) (nn) dd (cg)
  have TZ := Things.boxes1 (ts := tnl x' S' (Blk w.heap.size (.cells #[.int .i64 3, .int .i64 n, .int .i64 m, .int .i64 pk, .int .u64 tu, .string d, .slice ad wl cap] 39 (0, 0)) :: ts)) G1.out HF
  have k0 := hk 0 _ rfl
  have k1 := hk 1 _ rfl
  have k2 := hk 2 _ rfl
  have k3 := hk 3 _ rfl
  have k4 := hk 4 _ rfl
  have k5 := hk 5 _ rfl
  clear HF hk
  generalize (((((w1.setCell ⟨w.heap.size + 1, 0, none⟩ (.int .i64 (E))).setCell ⟨w.heap.size + 1, 1, none⟩ (.int .u64 (hd))).setCell ⟨w.heap.size + 1, 2, none⟩ (.int .i64 (av))).setCell ⟨w.heap.size + 1, 3, none⟩ (.int .i64 (nn))).setCell ⟨w.heap.size + 1, 4, none⟩ (.string dd)).setCell ⟨w.heap.size + 1, 5, none⟩ (.int .i64 (cg)) = wz at *
  exact bodyPost_ret (v := ans (E) (hd) (av) (nn) dd (cg)) (by simp [results, Tryz.results14, go_sem, k0, k1, k2, k3, k4, k5]) rfl (HX.out _ _ _ _ _ _ _ _ _ HK.out (tn_tail TZ))
set_option maxRecDepth 20000 in
set_option maxHeartbeats 4000000 in
theorem call_ok4 (g : Things W w (tnl x S ts)) (_gr : G17 W) (h : TnOk x S b) (_hb : b ≤ 700000) (_h0 : U64 hh) (_hn : I64 n) (_hm : I64 m) : Calls Tryz.prog 14 #[.pointer (some ⟨x.T, 0, none⟩), .agg #[.int .i64 4, .int .i64 n, .int .i64 m, .int .i64 pk, .int .u64 tu, .string d, .slice ad W0.length cap], .int .u64 hh] w (CallR W x ts b (fun E hd => E = 0 → (hd = hh ↔ chargeI n ≤ usN S hh))) := by
  have G : Hid (Things W ((w.alloc (.cells #[.int .i64 4, .int .i64 n, .int .i64 m, .int .i64 pk, .int .u64 tu, .string d, .slice ad W0.length cap] 39)).alloc (.cells #[.int .i64 0, .int .u64 0, .int .i64 0, .int .i64 0, .string ⟨#[]⟩, .int .i64 0] 43)) (tnl x S ((Blk w.heap.size (.cells #[.int .i64 4, .int .i64 n, .int .i64 m, .int .i64 pk, .int .u64 tu, .string d, .slice ad W0.length cap] 39 (0, 0)) :: ts) ++ [Blk (w.heap.size + 1) (.cells #[.int .i64 0, .int .u64 0, .int .i64 0, .int .i64 0, .string ⟨#[]⟩, .int .i64 0] 43 (0, 0))]))) := by
    have h := (tn_put g (.cells #[.int .i64 4, .int .i64 n, .int .i64 m, .int .i64 pk, .int .u64 tu, .string d, .slice ad W0.length cap] 39)).blk (.cells #[.int .i64 0, .int .u64 0, .int .i64 0, .int .i64 0, .string ⟨#[]⟩, .int .i64 0] 43)
    rw [World.size_alloc] at h
    exact h
  have HX : Hid (∀ (x' : Tp) (S' : TnS) (E hd av nn : Int) (dd : ByteArray) (cg : Int) (w' : World), (TnOk x' S' (b + 1536) ∧ x'.T = x.T ∧ U64 hd ∧ (fun E hd => E = 0 → (hd = hh ↔ chargeI n ≤ usN S hh)) E hd) → Things W w' (tnl x' S' ts) → CallR W x ts b (fun E hd => E = 0 → (hd = hh ↔ chargeI n ≤ usN S hh)) (.returned (ans E hd av nn dd cg)) w') := fun x' S' E hd av nn dd cg w' ⟨a1, a2, a3, a4⟩ g' => ⟨x', S', E, hd, av, nn, dd, cg, a1, a2, a3, a4, rfl, g'⟩
  have H1 : Hid (∀ (w : World) (ts : List (World → (Nat → Prop) → Prop)), Things W w (tnl x S ts) → Calls Tryz.prog 21 #[.pointer (some ⟨x.T, 0, none⟩), .int .u64 hh, .int .i64 n] w (CallR W x ts b (fun E hd => E = 0 → (hd = hh ↔ chargeI n ≤ usN S hh)))) := fun w ts g => (st_realloc g _gr h _hb _h0 _hn).mono fun e w' ⟨S', _, _, _, k, u, he, g', hp⟩ => ⟨x, S', _, _, _, _, _, _, k.less (by omega), rfl, u, hp, he, g'⟩
  clear g _gr h _hb _h0 _hn _hm
  generalize W0.length = wl at *
  generalize usN S hh = us at *
  go_enter Tryz.func14, Tryz.ntmps14
  go_wp2_with fail
  refine (H1.out _ _ G.out).mono ?_
  rintro e w1 ⟨x', S', E, hd, av, nn, dd, cg, a1, a2, a3, a4, rfl, g1⟩
  have G1 := hid g1
  have HK := hid (And.intro a1 (And.intro a2 (And.intro a3 a4)))
  clear g1 G H1 a1 a2 a3 a4
  have z1 := fun i => box_frz (tn_box G1.out) i
  have b0 := box_cellT (tn_box G1.out) 0 rfl
  have b1 := box_cellT (tn_box G1.out) 1 rfl
  have b2 := box_cellT (tn_box G1.out) 2 rfl
  have b3 := box_cellT (tn_box G1.out) 3 rfl
  have b4 := box_cellT (tn_box G1.out) 4 rfl
  have b5 := box_cellT (tn_box G1.out) 5 rfl
  go_wp2
  clear z1 b0 b1 b2 b3 b4 b5
  obtain ⟨HF, hk⟩ := ans_put (tn_box G1.out) (E) (hd) (av) (nn) dd (cg)
  have TZ := Things.boxes1 (ts := tnl x' S' (Blk w.heap.size (.cells #[.int .i64 4, .int .i64 n, .int .i64 m, .int .i64 pk, .int .u64 tu, .string d, .slice ad wl cap] 39 (0, 0)) :: ts)) G1.out HF
  have k0 := hk 0 _ rfl
  have k1 := hk 1 _ rfl
  have k2 := hk 2 _ rfl
  have k3 := hk 3 _ rfl
  have k4 := hk 4 _ rfl
  have k5 := hk 5 _ rfl
  clear HF hk
  generalize (((((w1.setCell ⟨w.heap.size + 1, 0, none⟩ (.int .i64 (E))).setCell ⟨w.heap.size + 1, 1, none⟩ (.int .u64 (hd))).setCell ⟨w.heap.size + 1, 2, none⟩ (.int .i64 (av))).setCell ⟨w.heap.size + 1, 3, none⟩ (.int .i64 (nn))).setCell ⟨w.heap.size + 1, 4, none⟩ (.string dd)).setCell ⟨w.heap.size + 1, 5, none⟩ (.int .i64 (cg)) = wz at *
  exact bodyPost_ret (v := ans (E) (hd) (av) (nn) dd (cg)) (by simp [results, Tryz.results14, go_sem, k0, k1, k2, k3, k4, k5]) rfl (HX.out _ _ _ _ _ _ _ _ _ HK.out (tn_tail TZ))
set_option maxRecDepth 20000 in
set_option maxHeartbeats 4000000 in
theorem call_ok5 (g : Things W w (tnl x S ts)) (_gr : G17 W) (h : TnOk x S b) (_hb : b ≤ 700000) (_h0 : U64 hh) (_hn : I64 n) (_hm : I64 m) : Calls Tryz.prog 14 #[.pointer (some ⟨x.T, 0, none⟩), .agg #[.int .i64 5, .int .i64 n, .int .i64 m, .int .i64 pk, .int .u64 tu, .string d, .slice ad W0.length cap], .int .u64 hh] w (CallR W x ts b (fun _ _ => True)) := by
  have G : Hid (Things W ((w.alloc (.cells #[.int .i64 5, .int .i64 n, .int .i64 m, .int .i64 pk, .int .u64 tu, .string d, .slice ad W0.length cap] 39)).alloc (.cells #[.int .i64 0, .int .u64 0, .int .i64 0, .int .i64 0, .string ⟨#[]⟩, .int .i64 0] 43)) (tnl x S ((Blk w.heap.size (.cells #[.int .i64 5, .int .i64 n, .int .i64 m, .int .i64 pk, .int .u64 tu, .string d, .slice ad W0.length cap] 39 (0, 0)) :: ts) ++ [Blk (w.heap.size + 1) (.cells #[.int .i64 0, .int .u64 0, .int .i64 0, .int .i64 0, .string ⟨#[]⟩, .int .i64 0] 43 (0, 0))]))) := by
    have h := (tn_put g (.cells #[.int .i64 5, .int .i64 n, .int .i64 m, .int .i64 pk, .int .u64 tu, .string d, .slice ad W0.length cap] 39)).blk (.cells #[.int .i64 0, .int .u64 0, .int .i64 0, .int .i64 0, .string ⟨#[]⟩, .int .i64 0] 43)
    rw [World.size_alloc] at h
    exact h
  have HX : Hid (∀ (x' : Tp) (S' : TnS) (E hd av nn : Int) (dd : ByteArray) (cg : Int) (w' : World), (TnOk x' S' (b + 1536) ∧ x'.T = x.T ∧ U64 hd ∧ (fun _ _ => True) E hd) → Things W w' (tnl x' S' ts) → CallR W x ts b (fun _ _ => True) (.returned (ans E hd av nn dd cg)) w') := fun x' S' E hd av nn dd cg w' ⟨a1, a2, a3, a4⟩ g' => ⟨x', S', E, hd, av, nn, dd, cg, a1, a2, a3, a4, rfl, g'⟩
  have H1 : Hid (∀ (w : World) (ts : List (World → (Nat → Prop) → Prop)), Things W w (tnl x S ts) → Calls Tryz.prog 13 #[.pointer (some ⟨x.T, 0, none⟩), .int .u64 hh] w (CallR W x ts b (fun _ _ => True))) := fun w ts g => (st_usable g h _h0).mono fun e w' ⟨⟨_, he⟩, g'⟩ => ⟨x, S, _, _, _, _, _, _, h.less (by omega), rfl, u64_0, trivial, he, g'⟩
  clear g _gr h _hb _h0 _hn _hm
  generalize W0.length = wl at *
  generalize usN S hh = us at *
  go_enter Tryz.func14, Tryz.ntmps14
  go_wp2_with fail
  refine (H1.out _ _ G.out).mono ?_
  rintro e w1 ⟨x', S', E, hd, av, nn, dd, cg, a1, a2, a3, a4, rfl, g1⟩
  have G1 := hid g1
  have HK := hid (And.intro a1 (And.intro a2 (And.intro a3 a4)))
  clear g1 G H1 a1 a2 a3 a4
  have z1 := fun i => box_frz (tn_box G1.out) i
  have b0 := box_cellT (tn_box G1.out) 0 rfl
  have b1 := box_cellT (tn_box G1.out) 1 rfl
  have b2 := box_cellT (tn_box G1.out) 2 rfl
  have b3 := box_cellT (tn_box G1.out) 3 rfl
  have b4 := box_cellT (tn_box G1.out) 4 rfl
  have b5 := box_cellT (tn_box G1.out) 5 rfl
  go_wp2
  clear z1 b0 b1 b2 b3 b4 b5
  obtain ⟨HF, hk⟩ := ans_put (tn_box G1.out) (E) (hd) (av) (nn) dd (cg)
  have TZ := Things.boxes1 (ts := tnl x' S' (Blk w.heap.size (.cells #[.int .i64 5, .int .i64 n, .int .i64 m, .int .i64 pk, .int .u64 tu, .string d, .slice ad wl cap] 39 (0, 0)) :: ts)) G1.out HF
  have k0 := hk 0 _ rfl
  have k1 := hk 1 _ rfl
  have k2 := hk 2 _ rfl
  have k3 := hk 3 _ rfl
  have k4 := hk 4 _ rfl
  have k5 := hk 5 _ rfl
  clear HF hk
  generalize (((((w1.setCell ⟨w.heap.size + 1, 0, none⟩ (.int .i64 (E))).setCell ⟨w.heap.size + 1, 1, none⟩ (.int .u64 (hd))).setCell ⟨w.heap.size + 1, 2, none⟩ (.int .i64 (av))).setCell ⟨w.heap.size + 1, 3, none⟩ (.int .i64 (nn))).setCell ⟨w.heap.size + 1, 4, none⟩ (.string dd)).setCell ⟨w.heap.size + 1, 5, none⟩ (.int .i64 (cg)) = wz at *
  exact bodyPost_ret (v := ans (E) (hd) (av) (nn) dd (cg)) (by simp [results, Tryz.results14, go_sem, k0, k1, k2, k3, k4, k5]) rfl (HX.out _ _ _ _ _ _ _ _ _ HK.out (tn_tail TZ))
set_option maxRecDepth 20000 in
set_option maxHeartbeats 4000000 in
theorem call_ok6 (g : Things W w (tnl x S ts)) (_gr : G17 W) (h : TnOk x S b) (_hb : b ≤ 700000) (_h0 : U64 hh) (_hn : I64 n) (_hm : I64 m) : Calls Tryz.prog 14 #[.pointer (some ⟨x.T, 0, none⟩), .agg #[.int .i64 6, .int .i64 n, .int .i64 m, .int .i64 pk, .int .u64 tu, .string d, .slice ad W0.length cap], .int .u64 hh] w (CallR W x ts b (fun _ _ => True)) := by
  have G : Hid (Things W ((w.alloc (.cells #[.int .i64 6, .int .i64 n, .int .i64 m, .int .i64 pk, .int .u64 tu, .string d, .slice ad W0.length cap] 39)).alloc (.cells #[.int .i64 0, .int .u64 0, .int .i64 0, .int .i64 0, .string ⟨#[]⟩, .int .i64 0] 43)) (tnl x S ((Blk w.heap.size (.cells #[.int .i64 6, .int .i64 n, .int .i64 m, .int .i64 pk, .int .u64 tu, .string d, .slice ad W0.length cap] 39 (0, 0)) :: ts) ++ [Blk (w.heap.size + 1) (.cells #[.int .i64 0, .int .u64 0, .int .i64 0, .int .i64 0, .string ⟨#[]⟩, .int .i64 0] 43 (0, 0))]))) := by
    have h := (tn_put g (.cells #[.int .i64 6, .int .i64 n, .int .i64 m, .int .i64 pk, .int .u64 tu, .string d, .slice ad W0.length cap] 39)).blk (.cells #[.int .i64 0, .int .u64 0, .int .i64 0, .int .i64 0, .string ⟨#[]⟩, .int .i64 0] 43)
    rw [World.size_alloc] at h
    exact h
  have HX : Hid (∀ (x' : Tp) (S' : TnS) (E hd av nn : Int) (dd : ByteArray) (cg : Int) (w' : World), (TnOk x' S' (b + 1536) ∧ x'.T = x.T ∧ U64 hd ∧ (fun _ _ => True) E hd) → Things W w' (tnl x' S' ts) → CallR W x ts b (fun _ _ => True) (.returned (ans E hd av nn dd cg)) w') := fun x' S' E hd av nn dd cg w' ⟨a1, a2, a3, a4⟩ g' => ⟨x', S', E, hd, av, nn, dd, cg, a1, a2, a3, a4, rfl, g'⟩
  have H1 : Hid (∀ (w : World) (ts : List (World → (Nat → Prop) → Prop)), Things W w (tnl x S ts) → Calls Tryz.prog 17 #[.pointer (some ⟨x.T, 0, none⟩), .int .u64 hh, .int .i64 n, .int .i64 m] w (CallR W x ts b (fun _ _ => True))) := fun w ts g => (st_read g h (by omega) _h0 _hn _hm).mono fun e w' ⟨S', _, _, k, he, g'⟩ => ⟨x, S', _, _, _, _, _, _, k.less (by omega), rfl, u64_0, trivial, he, g'⟩
  clear g _gr h _hb _h0 _hn _hm
  generalize W0.length = wl at *
  generalize usN S hh = us at *
  go_enter Tryz.func14, Tryz.ntmps14
  go_wp2_with fail
  refine (H1.out _ _ G.out).mono ?_
  rintro e w1 ⟨x', S', E, hd, av, nn, dd, cg, a1, a2, a3, a4, rfl, g1⟩
  have G1 := hid g1
  have HK := hid (And.intro a1 (And.intro a2 (And.intro a3 a4)))
  clear g1 G H1 a1 a2 a3 a4
  have z1 := fun i => box_frz (tn_box G1.out) i
  have b0 := box_cellT (tn_box G1.out) 0 rfl
  have b1 := box_cellT (tn_box G1.out) 1 rfl
  have b2 := box_cellT (tn_box G1.out) 2 rfl
  have b3 := box_cellT (tn_box G1.out) 3 rfl
  have b4 := box_cellT (tn_box G1.out) 4 rfl
  have b5 := box_cellT (tn_box G1.out) 5 rfl
  go_wp2
  clear z1 b0 b1 b2 b3 b4 b5
  obtain ⟨HF, hk⟩ := ans_put (tn_box G1.out) (E) (hd) (av) (nn) dd (cg)
  have TZ := Things.boxes1 (ts := tnl x' S' (Blk w.heap.size (.cells #[.int .i64 6, .int .i64 n, .int .i64 m, .int .i64 pk, .int .u64 tu, .string d, .slice ad wl cap] 39 (0, 0)) :: ts)) G1.out HF
  have k0 := hk 0 _ rfl
  have k1 := hk 1 _ rfl
  have k2 := hk 2 _ rfl
  have k3 := hk 3 _ rfl
  have k4 := hk 4 _ rfl
  have k5 := hk 5 _ rfl
  clear HF hk
  generalize (((((w1.setCell ⟨w.heap.size + 1, 0, none⟩ (.int .i64 (E))).setCell ⟨w.heap.size + 1, 1, none⟩ (.int .u64 (hd))).setCell ⟨w.heap.size + 1, 2, none⟩ (.int .i64 (av))).setCell ⟨w.heap.size + 1, 3, none⟩ (.int .i64 (nn))).setCell ⟨w.heap.size + 1, 4, none⟩ (.string dd)).setCell ⟨w.heap.size + 1, 5, none⟩ (.int .i64 (cg)) = wz at *
  exact bodyPost_ret (v := ans (E) (hd) (av) (nn) dd (cg)) (by simp [results, Tryz.results14, go_sem, k0, k1, k2, k3, k4, k5]) rfl (HX.out _ _ _ _ _ _ _ _ _ HK.out (tn_tail TZ))
set_option maxRecDepth 20000 in
set_option maxHeartbeats 4000000 in
theorem call_ok7 (g : Things W w (tnl x S ts)) (_gr : G17 W) (h : TnOk x S b) (_hb : b ≤ 700000) (_h0 : U64 hh) (_hn : I64 n) (_hm : I64 m) : Calls Tryz.prog 14 #[.pointer (some ⟨x.T, 0, none⟩), .agg #[.int .i64 7, .int .i64 n, .int .i64 m, .int .i64 pk, .int .u64 tu, .string d, .slice ad W0.length cap], .int .u64 hh] w (CallR W x ts b (fun _ _ => True)) := by
  have G : Hid (Things W ((w.alloc (.cells #[.int .i64 7, .int .i64 n, .int .i64 m, .int .i64 pk, .int .u64 tu, .string d, .slice ad W0.length cap] 39)).alloc (.cells #[.int .i64 0, .int .u64 0, .int .i64 0, .int .i64 0, .string ⟨#[]⟩, .int .i64 0] 43)) (tnl x S ((Blk w.heap.size (.cells #[.int .i64 7, .int .i64 n, .int .i64 m, .int .i64 pk, .int .u64 tu, .string d, .slice ad W0.length cap] 39 (0, 0)) :: ts) ++ [Blk (w.heap.size + 1) (.cells #[.int .i64 0, .int .u64 0, .int .i64 0, .int .i64 0, .string ⟨#[]⟩, .int .i64 0] 43 (0, 0))]))) := by
    have h := (tn_put g (.cells #[.int .i64 7, .int .i64 n, .int .i64 m, .int .i64 pk, .int .u64 tu, .string d, .slice ad W0.length cap] 39)).blk (.cells #[.int .i64 0, .int .u64 0, .int .i64 0, .int .i64 0, .string ⟨#[]⟩, .int .i64 0] 43)
    rw [World.size_alloc] at h
    exact h
  have HX : Hid (∀ (x' : Tp) (S' : TnS) (E hd av nn : Int) (dd : ByteArray) (cg : Int) (w' : World), (TnOk x' S' (b + 1536) ∧ x'.T = x.T ∧ U64 hd ∧ (fun _ _ => True) E hd) → Things W w' (tnl x' S' ts) → CallR W x ts b (fun _ _ => True) (.returned (ans E hd av nn dd cg)) w') := fun x' S' E hd av nn dd cg w' ⟨a1, a2, a3, a4⟩ g' => ⟨x', S', E, hd, av, nn, dd, cg, a1, a2, a3, a4, rfl, g'⟩
  have H1 : Hid (∀ (w : World) (ts : List (World → (Nat → Prop) → Prop)), Things W w (tnl x S ts) → Calls Tryz.prog 19 #[.pointer (some ⟨x.T, 0, none⟩), .int .u64 hh, .int .i64 n, .string d] w (CallR W x ts b (fun _ _ => True))) := fun w ts g => (st_write g h (by omega) _h0 _hn d).mono fun e w' ⟨S', _, k, he, g'⟩ => ⟨x, S', _, _, _, _, _, _, k.less (by omega), rfl, u64_0, trivial, he, g'⟩
  clear g _gr h _hb _h0 _hn _hm
  generalize W0.length = wl at *
  generalize usN S hh = us at *
  go_enter Tryz.func14, Tryz.ntmps14
  go_wp2_with fail
  refine (H1.out _ _ G.out).mono ?_
  rintro e w1 ⟨x', S', E, hd, av, nn, dd, cg, a1, a2, a3, a4, rfl, g1⟩
  have G1 := hid g1
  have HK := hid (And.intro a1 (And.intro a2 (And.intro a3 a4)))
  clear g1 G H1 a1 a2 a3 a4
  have z1 := fun i => box_frz (tn_box G1.out) i
  have b0 := box_cellT (tn_box G1.out) 0 rfl
  have b1 := box_cellT (tn_box G1.out) 1 rfl
  have b2 := box_cellT (tn_box G1.out) 2 rfl
  have b3 := box_cellT (tn_box G1.out) 3 rfl
  have b4 := box_cellT (tn_box G1.out) 4 rfl
  have b5 := box_cellT (tn_box G1.out) 5 rfl
  go_wp2
  clear z1 b0 b1 b2 b3 b4 b5
  obtain ⟨HF, hk⟩ := ans_put (tn_box G1.out) (E) (hd) (av) (nn) dd (cg)
  have TZ := Things.boxes1 (ts := tnl x' S' (Blk w.heap.size (.cells #[.int .i64 7, .int .i64 n, .int .i64 m, .int .i64 pk, .int .u64 tu, .string d, .slice ad wl cap] 39 (0, 0)) :: ts)) G1.out HF
  have k0 := hk 0 _ rfl
  have k1 := hk 1 _ rfl
  have k2 := hk 2 _ rfl
  have k3 := hk 3 _ rfl
  have k4 := hk 4 _ rfl
  have k5 := hk 5 _ rfl
  clear HF hk
  generalize (((((w1.setCell ⟨w.heap.size + 1, 0, none⟩ (.int .i64 (E))).setCell ⟨w.heap.size + 1, 1, none⟩ (.int .u64 (hd))).setCell ⟨w.heap.size + 1, 2, none⟩ (.int .i64 (av))).setCell ⟨w.heap.size + 1, 3, none⟩ (.int .i64 (nn))).setCell ⟨w.heap.size + 1, 4, none⟩ (.string dd)).setCell ⟨w.heap.size + 1, 5, none⟩ (.int .i64 (cg)) = wz at *
  exact bodyPost_ret (v := ans (E) (hd) (av) (nn) dd (cg)) (by simp [results, Tryz.results14, go_sem, k0, k1, k2, k3, k4, k5]) rfl (HX.out _ _ _ _ _ _ _ _ _ HK.out (tn_tail TZ))
set_option maxRecDepth 20000 in
set_option maxHeartbeats 4000000 in
theorem call_ok8 (g : Things W w (tnl x S ts)) (_gr : G17 W) (h : TnOk x S b) (_hb : b ≤ 700000) (_h0 : U64 hh) (_hn : I64 n) (_hm : I64 m) : Calls Tryz.prog 14 #[.pointer (some ⟨x.T, 0, none⟩), .agg #[.int .i64 8, .int .i64 n, .int .i64 m, .int .i64 pk, .int .u64 tu, .string d, .slice ad W0.length cap], .int .u64 hh] w (CallR W x ts b (fun _ _ => True)) := by
  have G : Hid (Things W ((w.alloc (.cells #[.int .i64 8, .int .i64 n, .int .i64 m, .int .i64 pk, .int .u64 tu, .string d, .slice ad W0.length cap] 39)).alloc (.cells #[.int .i64 0, .int .u64 0, .int .i64 0, .int .i64 0, .string ⟨#[]⟩, .int .i64 0] 43)) (tnl x S ((Blk w.heap.size (.cells #[.int .i64 8, .int .i64 n, .int .i64 m, .int .i64 pk, .int .u64 tu, .string d, .slice ad W0.length cap] 39 (0, 0)) :: ts) ++ [Blk (w.heap.size + 1) (.cells #[.int .i64 0, .int .u64 0, .int .i64 0, .int .i64 0, .string ⟨#[]⟩, .int .i64 0] 43 (0, 0))]))) := by
    have h := (tn_put g (.cells #[.int .i64 8, .int .i64 n, .int .i64 m, .int .i64 pk, .int .u64 tu, .string d, .slice ad W0.length cap] 39)).blk (.cells #[.int .i64 0, .int .u64 0, .int .i64 0, .int .i64 0, .string ⟨#[]⟩, .int .i64 0] 43)
    rw [World.size_alloc] at h
    exact h
  have HX : Hid (∀ (x' : Tp) (S' : TnS) (E hd av nn : Int) (dd : ByteArray) (cg : Int) (w' : World), (TnOk x' S' (b + 1536) ∧ x'.T = x.T ∧ U64 hd ∧ (fun _ _ => True) E hd) → Things W w' (tnl x' S' ts) → CallR W x ts b (fun _ _ => True) (.returned (ans E hd av nn dd cg)) w') := fun x' S' E hd av nn dd cg w' ⟨a1, a2, a3, a4⟩ g' => ⟨x', S', E, hd, av, nn, dd, cg, a1, a2, a3, a4, rfl, g'⟩
  have H1 : Hid (∀ (w : World) (ts : List (World → (Nat → Prop) → Prop)), Things W w (tnl x S ts) → Calls Tryz.prog 22 #[.pointer (some ⟨x.T, 0, none⟩), .int .u64 hh, .int .i64 n] w (CallR W x ts b (fun _ _ => True))) := fun w ts g => (st_restrict g _gr h _h0 n).mono fun e w' ⟨S', _, _, k, u, he, g'⟩ => ⟨x, S', _, _, _, _, _, _, k.less (by omega), rfl, u, trivial, he, g'⟩
  clear g _gr h _hb _h0 _hn _hm
  generalize W0.length = wl at *
  generalize usN S hh = us at *
  go_enter Tryz.func14, Tryz.ntmps14
  go_wp2_with fail
  refine (H1.out _ _ G.out).mono ?_
  rintro e w1 ⟨x', S', E, hd, av, nn, dd, cg, a1, a2, a3, a4, rfl, g1⟩
  have G1 := hid g1
  have HK := hid (And.intro a1 (And.intro a2 (And.intro a3 a4)))
  clear g1 G H1 a1 a2 a3 a4
  have z1 := fun i => box_frz (tn_box G1.out) i
  have b0 := box_cellT (tn_box G1.out) 0 rfl
  have b1 := box_cellT (tn_box G1.out) 1 rfl
  have b2 := box_cellT (tn_box G1.out) 2 rfl
  have b3 := box_cellT (tn_box G1.out) 3 rfl
  have b4 := box_cellT (tn_box G1.out) 4 rfl
  have b5 := box_cellT (tn_box G1.out) 5 rfl
  go_wp2
  clear z1 b0 b1 b2 b3 b4 b5
  obtain ⟨HF, hk⟩ := ans_put (tn_box G1.out) (E) (hd) (av) (nn) dd (cg)
  have TZ := Things.boxes1 (ts := tnl x' S' (Blk w.heap.size (.cells #[.int .i64 8, .int .i64 n, .int .i64 m, .int .i64 pk, .int .u64 tu, .string d, .slice ad wl cap] 39 (0, 0)) :: ts)) G1.out HF
  have k0 := hk 0 _ rfl
  have k1 := hk 1 _ rfl
  have k2 := hk 2 _ rfl
  have k3 := hk 3 _ rfl
  have k4 := hk 4 _ rfl
  have k5 := hk 5 _ rfl
  clear HF hk
  generalize (((((w1.setCell ⟨w.heap.size + 1, 0, none⟩ (.int .i64 (E))).setCell ⟨w.heap.size + 1, 1, none⟩ (.int .u64 (hd))).setCell ⟨w.heap.size + 1, 2, none⟩ (.int .i64 (av))).setCell ⟨w.heap.size + 1, 3, none⟩ (.int .i64 (nn))).setCell ⟨w.heap.size + 1, 4, none⟩ (.string dd)).setCell ⟨w.heap.size + 1, 5, none⟩ (.int .i64 (cg)) = wz at *
  exact bodyPost_ret (v := ans (E) (hd) (av) (nn) dd (cg)) (by simp [results, Tryz.results14, go_sem, k0, k1, k2, k3, k4, k5]) rfl (HX.out _ _ _ _ _ _ _ _ _ HK.out (tn_tail TZ))
set_option maxRecDepth 20000 in
set_option maxHeartbeats 4000000 in
theorem call_ok10 (g : Things W w (tnl x S ts)) (_gr : G17 W) (h : TnOk x S b) (_hb : b ≤ 700000) (_h0 : U64 hh) (_hn : I64 n) (_hm : I64 m) : Calls Tryz.prog 14 #[.pointer (some ⟨x.T, 0, none⟩), .agg #[.int .i64 10, .int .i64 n, .int .i64 m, .int .i64 pk, .int .u64 tu, .string d, .slice ad W0.length cap], .int .u64 hh] w (CallR W x ts b (fun _ _ => True)) := by
  have G : Hid (Things W ((w.alloc (.cells #[.int .i64 10, .int .i64 n, .int .i64 m, .int .i64 pk, .int .u64 tu, .string d, .slice ad W0.length cap] 39)).alloc (.cells #[.int .i64 0, .int .u64 0, .int .i64 0, .int .i64 0, .string ⟨#[]⟩, .int .i64 0] 43)) (tnl x S ((Blk w.heap.size (.cells #[.int .i64 10, .int .i64 n, .int .i64 m, .int .i64 pk, .int .u64 tu, .string d, .slice ad W0.length cap] 39 (0, 0)) :: ts) ++ [Blk (w.heap.size + 1) (.cells #[.int .i64 0, .int .u64 0, .int .i64 0, .int .i64 0, .string ⟨#[]⟩, .int .i64 0] 43 (0, 0))]))) := by
    have h := (tn_put g (.cells #[.int .i64 10, .int .i64 n, .int .i64 m, .int .i64 pk, .int .u64 tu, .string d, .slice ad W0.length cap] 39)).blk (.cells #[.int .i64 0, .int .u64 0, .int .i64 0, .int .i64 0, .string ⟨#[]⟩, .int .i64 0] 43)
    rw [World.size_alloc] at h
    exact h
  have HX : Hid (∀ (x' : Tp) (S' : TnS) (E hd av nn : Int) (dd : ByteArray) (cg : Int) (w' : World), (TnOk x' S' (b + 1536) ∧ x'.T = x.T ∧ U64 hd ∧ (fun _ _ => True) E hd) → Things W w' (tnl x' S' ts) → CallR W x ts b (fun _ _ => True) (.returned (ans E hd av nn dd cg)) w') := fun x' S' E hd av nn dd cg w' ⟨a1, a2, a3, a4⟩ g' => ⟨x', S', E, hd, av, nn, dd, cg, a1, a2, a3, a4, rfl, g'⟩
  have H1 : Hid (∀ (w : World) (ts : List (World → (Nat → Prop) → Prop)), Things W w (tnl x S ts) → Calls Tryz.prog 35 #[.pointer (some ⟨x.T, 0, none⟩)] w fun e w' => ∃ x' S', TnOk x' S' (b + 1536) ∧ x'.T = x.T ∧ e = .returned (.tuple #[]) ∧ Things W w' (tnl x' S' ts)) := fun w ts g => (st_drop g _gr h (by omega)).mono fun e w' ⟨x', S', a1, a2, he, g'⟩ => ⟨x', S', a1.less (by omega), a2, he, g'⟩
  clear g _gr h _hb _h0 _hn _hm
  generalize W0.length = wl at *
  go_enter Tryz.func14, Tryz.ntmps14
  go_wp2_with fail
  refine (H1.out _ _ G.out).mono ?_
  rintro e w1 ⟨x', S', a1, a2, rfl, g1⟩
  have G1 := hid g1
  have HK : Hid (TnOk x' S' (b + 1536) ∧ x'.T = x.T ∧ U64 0 ∧ True) := ⟨a1, a2, u64_0, trivial⟩
  clear g1 G H1 a1 a2
  have z1 := fun i => box_frz (tn_box G1.out) i
  have b0 := box_cellT (tn_box G1.out) 0 rfl
  have b1 := box_cellT (tn_box G1.out) 1 rfl
  have b2 := box_cellT (tn_box G1.out) 2 rfl
  have b3 := box_cellT (tn_box G1.out) 3 rfl
  have b4 := box_cellT (tn_box G1.out) 4 rfl
  have b5 := box_cellT (tn_box G1.out) 5 rfl
  go_wp2
  clear z1 b0 b1 b2 b3 b4 b5
  obtain ⟨HF, hk⟩ := ans_put (tn_box G1.out) (0) (0) (0) (0) ⟨#[]⟩ (0)
  have TZ := Things.boxes1 (ts := tnl x' S' (Blk w.heap.size (.cells #[.int .i64 10, .int .i64 n, .int .i64 m, .int .i64 pk, .int .u64 tu, .string d, .slice ad wl cap] 39 (0, 0)) :: ts)) G1.out HF
  have k0 := hk 0 _ rfl
  have k1 := hk 1 _ rfl
  have k2 := hk 2 _ rfl
  have k3 := hk 3 _ rfl
  have k4 := hk 4 _ rfl
  have k5 := hk 5 _ rfl
  clear HF hk
  generalize (((((w1.setCell ⟨w.heap.size + 1, 0, none⟩ (.int .i64 (0))).setCell ⟨w.heap.size + 1, 1, none⟩ (.int .u64 (0))).setCell ⟨w.heap.size + 1, 2, none⟩ (.int .i64 (0))).setCell ⟨w.heap.size + 1, 3, none⟩ (.int .i64 (0))).setCell ⟨w.heap.size + 1, 4, none⟩ (.string ⟨#[]⟩)).setCell ⟨w.heap.size + 1, 5, none⟩ (.int .i64 (0)) = wz at *
  exact bodyPost_ret (v := ans (0) (0) (0) (0) ⟨#[]⟩ (0)) (by simp [results, Tryz.results14, go_sem, k0, k1, k2, k3, k4, k5]) rfl (HX.out _ _ _ _ _ _ _ _ _ HK.out (tn_tail TZ))
set_option maxRecDepth 20000 in
set_option maxHeartbeats 4000000 in
theorem call_ok11 (g : Things W w (tnl x S ts)) (_gr : G17 W) (h : TnOk x S b) (_hb : b ≤ 700000) (_h0 : U64 hh) (_hn : I64 n) (_hm : I64 m) {kd : Int} (h1 : kd ≠ 1) (h2 : kd ≠ 2) (h3 : kd ≠ 3) (h4 : kd ≠ 4) (h5 : kd ≠ 5) (h6 : kd ≠ 6) (h7 : kd ≠ 7) (h8 : kd ≠ 8) (h9 : kd ≠ 9) (h10 : kd ≠ 10) : Calls Tryz.prog 14 #[.pointer (some ⟨x.T, 0, none⟩), .agg #[.int .i64 kd, .int .i64 n, .int .i64 m, .int .i64 pk, .int .u64 tu, .string d, .slice ad W0.length cap], .int .u64 hh] w (CallR W x ts b (fun _ _ => True)) := by
  have G : Hid (Things W ((w.alloc (.cells #[.int .i64 kd, .int .i64 n, .int .i64 m, .int .i64 pk, .int .u64 tu, .string d, .slice ad W0.length cap] 39)).alloc (.cells #[.int .i64 0, .int .u64 0, .int .i64 0, .int .i64 0, .string ⟨#[]⟩, .int .i64 0] 43)) (tnl x S ((Blk w.heap.size (.cells #[.int .i64 kd, .int .i64 n, .int .i64 m, .int .i64 pk, .int .u64 tu, .string d, .slice ad W0.length cap] 39 (0, 0)) :: ts) ++ [Blk (w.heap.size + 1) (.cells #[.int .i64 0, .int .u64 0, .int .i64 0, .int .i64 0, .string ⟨#[]⟩, .int .i64 0] 43 (0, 0))]))) := by
    have h := (tn_put g (.cells #[.int .i64 kd, .int .i64 n, .int .i64 m, .int .i64 pk, .int .u64 tu, .string d, .slice ad W0.length cap] 39)).blk (.cells #[.int .i64 0, .int .u64 0, .int .i64 0, .int .i64 0, .string ⟨#[]⟩, .int .i64 0] 43)
    rw [World.size_alloc] at h
    exact h
  have HX : Hid (∀ (x' : Tp) (S' : TnS) (E hd av nn : Int) (dd : ByteArray) (cg : Int) (w' : World), (TnOk x' S' (b + 1536) ∧ x'.T = x.T ∧ U64 hd ∧ (fun _ _ => True) E hd) → Things W w' (tnl x' S' ts) → CallR W x ts b (fun _ _ => True) (.returned (ans E hd av nn dd cg)) w') := fun x' S' E hd av nn dd cg w' ⟨a1, a2, a3, a4⟩ g' => ⟨x', S', E, hd, av, nn, dd, cg, a1, a2, a3, a4, rfl, g'⟩
  have H1 : Hid (∀ (w : World) (ts : List (World → (Nat → Prop) → Prop)), Things W w (tnl x S ts) → Calls Tryz.prog 36 #[.pointer (some ⟨x.T, 0, none⟩), .int .i64 n, .int .i64 m] w fun e w' => e = .returned (.int .i64 (fitE S.s.cb x.pk n m)) ∧ Things W w' (tnl x S ts)) := fun w ts g => n_fits g _gr n m
  have HK : Hid (TnOk x S (b + 1536) ∧ x.T = x.T ∧ U64 0 ∧ True) := ⟨h.less (by omega), rfl, u64_0, trivial⟩
  clear g _gr h _hb _h0 _hn _hm
  generalize W0.length = wl at *
  generalize fitE S.s.cb x.pk n m = E at *
  go_enter Tryz.func14, Tryz.ntmps14
  go_wp2_with fail
  refine (H1.out _ _ G.out).mono ?_
  rintro e w1 ⟨rfl, g1⟩
  have G1 := hid g1
  clear g1 G H1
  have z1 := fun i => box_frz (tn_box G1.out) i
  have b0 := box_cellT (tn_box G1.out) 0 rfl
  have b1 := box_cellT (tn_box G1.out) 1 rfl
  have b2 := box_cellT (tn_box G1.out) 2 rfl
  have b3 := box_cellT (tn_box G1.out) 3 rfl
  have b4 := box_cellT (tn_box G1.out) 4 rfl
  have b5 := box_cellT (tn_box G1.out) 5 rfl
  go_wp2
  clear z1 b0 b1 b2 b3 b4 b5
  obtain ⟨HF, hk⟩ := ans_put (tn_box G1.out) (E) (0) (0) (0) ⟨#[]⟩ (0)
  have TZ := Things.boxes1 (ts := tnl x S (Blk w.heap.size (.cells #[.int .i64 kd, .int .i64 n, .int .i64 m, .int .i64 pk, .int .u64 tu, .string d, .slice ad wl cap] 39 (0, 0)) :: ts)) G1.out HF
  have k0 := hk 0 _ rfl
  have k1 := hk 1 _ rfl
  have k2 := hk 2 _ rfl
  have k3 := hk 3 _ rfl
  have k4 := hk 4 _ rfl
  have k5 := hk 5 _ rfl
  clear HF hk
  generalize (((((w1.setCell ⟨w.heap.size + 1, 0, none⟩ (.int .i64 (E))).setCell ⟨w.heap.size + 1, 1, none⟩ (.int .u64 (0))).setCell ⟨w.heap.size + 1, 2, none⟩ (.int .i64 (0))).setCell ⟨w.heap.size + 1, 3, none⟩ (.int .i64 (0))).setCell ⟨w.heap.size + 1, 4, none⟩ (.string ⟨#[]⟩)).setCell ⟨w.heap.size + 1, 5, none⟩ (.int .i64 (0)) = wz at *
  exact bodyPost_ret (v := ans (E) (0) (0) (0) ⟨#[]⟩ (0)) (by simp [results, Tryz.results14, go_sem, k0, k1, k2, k3, k4, k5]) rfl (HX.out _ _ _ _ _ _ _ _ _ ⟨HK.out.1, rfl, u64_0, trivial⟩ (tn_tail TZ))
set_option maxRecDepth 20000 in
set_option maxHeartbeats 4000000 in
theorem call_ok9 (g : Things W w (tnl x S ts)) (_gr : G17 W) (h : TnOk x S b) (_hb : b ≤ 700000) (_h0 : U64 hh) (_hn : I64 n) (_hm : I64 m) (hl : NumsAt W ad W0) (hlW : W0.length ≤ 100000) : Calls Tryz.prog 14 #[.pointer (some ⟨x.T, 0, none⟩), .agg #[.int .i64 9, .int .i64 n, .int .i64 m, .int .i64 pk, .int .u64 tu, .string d, .slice ad W0.length cap], .int .u64 hh] w (CallR W x ts b (fun _ _ => True)) := by
  have G : Hid (Things W ((w.alloc (.cells #[.int .i64 9, .int .i64 n, .int .i64 m, .int .i64 pk, .int .u64 tu, .string d, .slice ad W0.length cap] 39)).alloc (.cells #[.int .i64 0, .int .u64 0, .int .i64 0, .int .i64 0, .string ⟨#[]⟩, .int .i64 0] 43)) (tnl x S ((Blk w.heap.size (.cells #[.int .i64 9, .int .i64 n, .int .i64 m, .int .i64 pk, .int .u64 tu, .string d, .slice ad W0.length cap] 39 (0, 0)) :: ts) ++ [Blk (w.heap.size + 1) (.cells #[.int .i64 0, .int .u64 0, .int .i64 0, .int .i64 0, .string ⟨#[]⟩, .int .i64 0] 43 (0, 0))]))) := by
    have h := (tn_put g (.cells #[.int .i64 9, .int .i64 n, .int .i64 m, .int .i64 pk, .int .u64 tu, .string d, .slice ad W0.length cap] 39)).blk (.cells #[.int .i64 0, .int .u64 0, .int .i64 0, .int .i64 0, .string ⟨#[]⟩, .int .i64 0] 43)
    rw [World.size_alloc] at h
    exact h
  have HX : Hid (∀ (x' : Tp) (S' : TnS) (E hd av nn : Int) (dd : ByteArray) (cg : Int) (w' : World), (TnOk x' S' (b + 1536) ∧ x'.T = x.T ∧ U64 hd ∧ (fun _ _ => True) E hd) → Things W w' (tnl x' S' ts) → CallR W x ts b (fun _ _ => True) (.returned (ans E hd av nn dd cg)) w') := fun x' S' E hd av nn dd cg w' ⟨a1, a2, a3, a4⟩ g' => ⟨x', S', E, hd, av, nn, dd, cg, a1, a2, a3, a4, rfl, g'⟩
  have HD : Hid (∀ w1 ts, Things W w1 (tnl x S ts) → ∃ ad' cap' w', (Builtin.append_ #[24, 24] 24 #[.slice (some ⟨w1.heap.size, 0, none⟩) 0 0, .slice ad W0.length cap]).run Tryz.prog (w1.alloc (.cells #[] 3)) = .ok (.slice ad' W0.length cap') w' ∧ Things W w' (tnl x S (Lv ad' W0 :: ts)) ∧ Things W w' (tnl x S ts)) := fun w1 ts g => by
    obtain ⟨ad', cap', w', h1, h2, h3, h4⟩ := run_dup (w := w1) 24 cap (hl.fr g.nw.fr) (by omega)
    have h5 : Things W w' (tnl x S ts ++ [Lv ad' W0]) := g.more (Lv.good _ _) (Lv.new h2) h3 fun j ⟨⟨off, e⟩, h0⟩ => ⟨h4 j off e, (Lv.new h2).2.2 j ⟨⟨off, e⟩, h0⟩⟩
    exact ⟨ad', cap', w', h1, Things.rot [Hs x.a x.m x.h x.t x.k S.M S.H, Kc x.c S.c, Qq x.q S.s, Ot x.B S.f S.n, Blk x.T (tob x)] ts h5, g.kept h3⟩
  have H1 : Hid (∀ (w : World) ad' (cap' : Nat) (ts : List (World → (Nat → Prop) → Prop)), Things W w (tnl x S (Lv ad' W0 :: ts)) → Calls Tryz.prog 34 #[.pointer (some ⟨x.T, 0, none⟩), .int .i64 n, .slice ad' W0.length cap'] w fun e w' => ∃ x' S' E, (TnOk x' S' (b + 1536) ∧ x'.T = x.T ∧ U64 0 ∧ True) ∧ e = .returned (.int .i64 E) ∧ Things W w' (tnl x' S' ts)) := fun w ad' cap' ts g => (st_resize g _gr h (by omega) hlW n).mono fun e w' ⟨x', S', E, a1, a2, he, g'⟩ => ⟨x', S', E, ⟨a1, a2, u64_0, trivial⟩, he, g'⟩
  clear g hl hlW _gr h _hb _h0 _hn _hm
  generalize W0.length = wl at *
  go_enter Tryz.func14, Tryz.ntmps14
  go_wp2_with fail
  generalize (w.alloc (.cells #[.int .i64 9, .int .i64 n, .int .i64 m, .int .i64 pk, .int .u64 tu, .string d, .slice ad wl cap] 39)).alloc (.cells #[.int .i64 0, .int .u64 0, .int .i64 0, .int .i64 0, .string ⟨#[]⟩, .int .i64 0] 43) = wa at *
  have HCC : Hid (∀ w1 x S, Things W w1 (tnl x S ((Blk w.heap.size (.cells #[.int .i64 9, .int .i64 n, .int .i64 m, .int .i64 pk, .int .u64 tu, .string d, .slice ad wl cap] 39 (0, 0)) :: ts) ++ [Blk (w.heap.size + 1) (.cells #[.int .i64 0, .int .u64 0, .int .i64 0, .int .i64 0, .string ⟨#[]⟩, .int .i64 0] 43 (0, 0))])) → w1.cell? ⟨w.heap.size, 1, none⟩ = some (.int .i64 n) ∧ w1.cell? ⟨w.heap.size, 6, none⟩ = some (.slice ad wl cap)) := fun w1 x S h => ⟨box_cellT (h.cells 5 rfl) 1 rfl, box_cellT (h.cells 5 rfl) 6 rfl⟩
  have H2 : Hid (∀ w4 x' S' E, Things W w4 (tnl x' S' ((Blk w.heap.size (.cells #[.int .i64 9, .int .i64 n, .int .i64 m, .int .i64 pk, .int .u64 tu, .string d, .slice ad wl cap] 39 (0, 0)) :: ts) ++ [Blk (w.heap.size + 1) (.cells #[.int .i64 0, .int .u64 0, .int .i64 0, .int .i64 0, .string ⟨#[]⟩, .int .i64 0] 43 (0, 0))])) → (((((((w4.setCell ⟨w.heap.size + 1, 0, none⟩ (.int .i64 (E))).setCell ⟨w.heap.size + 1, 1, none⟩ (.int .u64 (0))).setCell ⟨w.heap.size + 1, 2, none⟩ (.int .i64 (0))).setCell ⟨w.heap.size + 1, 3, none⟩ (.int .i64 (0))).setCell ⟨w.heap.size + 1, 4, none⟩ (.string ⟨#[]⟩)).setCell ⟨w.heap.size + 1, 5, none⟩ (.int .i64 (0))).cell? ⟨w.heap.size, 1, none⟩ = some (.int .i64 n) ∧ ((((((w4.setCell ⟨w.heap.size + 1, 0, none⟩ (.int .i64 (E))).setCell ⟨w.heap.size + 1, 1, none⟩ (.int .u64 (0))).setCell ⟨w.heap.size + 1, 2, none⟩ (.int .i64 (0))).setCell ⟨w.heap.size + 1, 3, none⟩ (.int .i64 (0))).setCell ⟨w.heap.size + 1, 4, none⟩ (.string ⟨#[]⟩)).setCell ⟨w.heap.size + 1, 5, none⟩ (.int .i64 (0))).cell? ⟨w.heap.size, 6, none⟩ = some (.slice ad wl cap)) ∧ (∀ (i : Nat) (v : Value), (#[.int .i64 E, .int .u64 0, .int .i64 0, .int .i64 0, .string ⟨#[]⟩, .int .i64 0] : Array Value)[i]? = some v → ((((((w4.setCell ⟨w.heap.size + 1, 0, none⟩ (.int .i64 (E))).setCell ⟨w.heap.size + 1, 1, none⟩ (.int .u64 (0))).setCell ⟨w.heap.size + 1, 2, none⟩ (.int .i64 (0))).setCell ⟨w.heap.size + 1, 3, none⟩ (.int .i64 (0))).setCell ⟨w.heap.size + 1, 4, none⟩ (.string ⟨#[]⟩)).setCell ⟨w.heap.size + 1, 5, none⟩ (.int .i64 (0))).cell? ⟨w.heap.size + 1, i, none⟩ = some v) ∧ Things W ((((((w4.setCell ⟨w.heap.size + 1, 0, none⟩ (.int .i64 (E))).setCell ⟨w.heap.size + 1, 1, none⟩ (.int .u64 (0))).setCell ⟨w.heap.size + 1, 2, none⟩ (.int .i64 (0))).setCell ⟨w.heap.size + 1, 3, none⟩ (.int .i64 (0))).setCell ⟨w.heap.size + 1, 4, none⟩ (.string ⟨#[]⟩)).setCell ⟨w.heap.size + 1, 5, none⟩ (.int .i64 (0))) (tnl x' S' ts)) := fun w4 x' S' E g4 => by
    obtain ⟨HF, hk⟩ := ans_put (tn_box g4) E 0 0 0 ⟨#[]⟩ 0
    have TZ := Things.boxes1 (ts := tnl x' S' (Blk w.heap.size (.cells #[.int .i64 9, .int .i64 n, .int .i64 m, .int .i64 pk, .int .u64 tu, .string d, .slice ad wl cap] 39 (0, 0)) :: ts)) g4 HF
    exact ⟨⟨box_cellT (TZ.cells 5 rfl) 1 rfl, box_cellT (TZ.cells 5 rfl) 6 rfl⟩, hk, tn_tail TZ⟩
  have gd := G.out.kept ((Fr.refl _ _).drew)
  obtain ⟨ad', cap', w3, hr, g3, g3'⟩ := HD.out _ _ gd
  rw [show wa.drew.heap.size = wa.heap.size from by simp] at hr
  have hrun : (Builtin.append_ #[24, 24] 24 #[.slice (some ⟨wa.heap.size, 0, none⟩) 0 0, .slice ad wl cap]).run Tryz.prog (wa.alloc (.cells #[] 3)).drew = .ok (.slice ad' wl cap') w3 := hr
  have ge := gd.kept ((Fr.refl _ _).alloc (.cells #[] 3))
  have G3 := hid (H1.out _ _ cap' _ g3)
  obtain ⟨a2, a3⟩ := HCC.out _ _ _ gd
  obtain ⟨b2, b3⟩ := HCC.out _ _ _ ge
  obtain ⟨d2, d3⟩ := HCC.out _ _ _ g3'
  have b2' : (wa.alloc (.cells #[] 3)).drew.cell? ⟨w.heap.size, 1, none⟩ = some (.int .i64 n) := b2
  have b3' : (wa.alloc (.cells #[] 3)).drew.cell? ⟨w.heap.size, 6, none⟩ = some (.slice ad wl cap) := b3
  clear hr gd ge g3 g3' HD b2 b3 H1 G
  go_region_held3 (fun w' => w'.cell? ⟨w.heap.size, 1, none⟩ = some (.int .i64 n) ∧ w'.cell? ⟨w.heap.size, 6, none⟩ = some (.slice ad wl cap)) (first | exact ⟨by with_reducible assumption, by with_reducible assumption⟩ | go_keep) (first | (refine app_arm rfl (.tmp 70) (.tmp 72) _ _ rfl rfl rfl hrun ?_) | (go_at_call 34; refine G3.out.mono ?_; rintro e w4 ⟨x', S', E, hkk, rfl, g4⟩; have G4 := hid g4; have HK := hid hkk; obtain ⟨n2, n3⟩ := HCC.out _ _ _ g4; obtain ⟨⟨s2, s3⟩, hk, tz⟩ := H2.out _ _ _ E g4; have TZ := hid tz; have HKk := hid hk; have z1 := fun i => box_frz (tn_box G4.out) i; have b0 := box_cellT (tn_box G4.out) 0 rfl; have b1 := box_cellT (tn_box G4.out) 1 rfl; have b2 := box_cellT (tn_box G4.out) 2 rfl; have b3 := box_cellT (tn_box G4.out) 3 rfl; have b4 := box_cellT (tn_box G4.out) 4 rfl; have b5 := box_cellT (tn_box G4.out) 5 rfl; clear g4 tz hk hkk))
  all_goals
    go_wp2
    clear z1 b0 b1 b2 b3 b4 b5
    have k0 := HKk.out 0 _ rfl
    have k1 := HKk.out 1 _ rfl
    have k2 := HKk.out 2 _ rfl
    have k3 := HKk.out 3 _ rfl
    have k4 := HKk.out 4 _ rfl
    have k5 := HKk.out 5 _ rfl
    exact bodyPost_ret (v := ans E 0 0 0 ⟨#[]⟩ 0) (by simp [results, Tryz.results14, go_sem, k0, k1, k2, k3, k4, k5]) rfl (HX.out _ _ _ _ _ _ _ _ _ HK.out TZ.out)
theorem CallR.mono {P Q : Int → Int → Prop} {e : Ending} {w' : World} (h : CallR W x ts b P e w') (hp : ∀ E hd, P E hd → Q E hd) : CallR W x ts b Q e w' := by
  obtain ⟨x', S', E, hd, av, nn, dd, cg, a1, a2, a3, a4, a5, a6⟩ := h
  exact ⟨x', S', E, hd, av, nn, dd, cg, a1, a2, a3, hp _ _ a4, a5, a6⟩
theorem call_ok (g : Things W w (tnl x S ts)) (gr : G17 W) (h : TnOk x S b) (hb : b ≤ 700000) (h0 : U64 hh) {o : O18} (hR : OpR18 W o) (hlW : o.W.length ≤ 100000) : Calls Tryz.prog 14 #[.pointer (some ⟨x.T, 0, none⟩), .agg o.cs, .int .u64 hh] w (CallR W x ts b (fun E hd => o.kd = 4 → E = 0 → (hd = hh ↔ chargeI o.n ≤ usN S hh))) := by
  obtain ⟨kd, n, m, pk, tu, d, ad, cap, W0⟩ := o
  have hn := hR.n
  have hm := hR.m
  have hl := hR.W
  unfold O18.cs
  simp only at hn hm hl hlW ⊢
  by_cases h1 : kd = 1
  · subst h1
    exact (call_ok1 g gr h hb h0 hn hm).mono fun _ _ hr => hr.mono (fun _ _ _ e => absurd e (by decide))
  by_cases h2 : kd = 2
  · subst h2
    exact (call_ok2 g gr h hb h0 hn hm).mono fun _ _ hr => hr.mono (fun _ _ _ e => absurd e (by decide))
  by_cases h3 : kd = 3
  · subst h3
    exact (call_ok3 g gr h hb h0 hn hm).mono fun _ _ hr => hr.mono (fun _ _ _ e => absurd e (by decide))
  by_cases h4 : kd = 4
  · subst h4
    exact (call_ok4 g gr h hb h0 hn hm).mono fun _ _ hr => hr.mono (fun _ _ hp _ => hp)
  by_cases h5 : kd = 5
  · subst h5
    exact (call_ok5 g gr h hb h0 hn hm).mono fun _ _ hr => hr.mono (fun _ _ _ e => absurd e (by decide))
  by_cases h6 : kd = 6
  · subst h6
    exact (call_ok6 g gr h hb h0 hn hm).mono fun _ _ hr => hr.mono (fun _ _ _ e => absurd e (by decide))
  by_cases h7 : kd = 7
  · subst h7
    exact (call_ok7 g gr h hb h0 hn hm).mono fun _ _ hr => hr.mono (fun _ _ _ e => absurd e (by decide))
  by_cases h8 : kd = 8
  · subst h8
    exact (call_ok8 g gr h hb h0 hn hm).mono fun _ _ hr => hr.mono (fun _ _ _ e => absurd e (by decide))
  by_cases h9 : kd = 9
  · subst h9
    exact (call_ok9 g gr h hb h0 hn hm hl hlW).mono fun _ _ hr => hr.mono (fun _ _ _ e => absurd e (by decide))
  by_cases h10 : kd = 10
  · subst h10
    exact (call_ok10 g gr h hb h0 hn hm).mono fun _ _ hr => hr.mono (fun _ _ _ e => absurd e (by decide))
  exact (call_ok11 g gr h hb h0 hn hm h1 h2 h3 h4 h5 h6 h7 h8 h9 h10).mono fun _ _ hr => hr.mono fun _ _ _ e => (h4 e).elim
end
end Go.Proofs.YtndhbnhobhkmaaaGreatDoor
