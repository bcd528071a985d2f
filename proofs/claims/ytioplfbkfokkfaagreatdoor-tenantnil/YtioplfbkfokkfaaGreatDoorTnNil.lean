/-
  A tenant that is none, and one without an arena: the walk of the law TenantNil.
-/
import Derived.Test.YtioplfbkfokkfaaGreatDoorTnMade
import Derived.Test.YtioplfbkfokkfaaGreatDoorTnCallsJ
namespace Go.Proofs.YtioplfbkfokkfaaGreatDoor
open Go.RowKit
open An

theorem n_new_nil (i n q : Int) (v : Value) (w : World) : Calls Tryz.prog 7 #[.pointer none, .pointer none, .int .i64 i, .int .i64 n, .int .i64 q, v] w fun e w' => e = .returned (.tuple #[.pointer none, .int .i64 11]) ∧ Fr (fun _ => False) w w' := by
  have H1 := hid fun (w : World) => y_new_nil v w
  go_enter Tryz.func7, Tryz.ntmps7
  go_wp2_with fail
  refine (H1.out _).mono ?_
  rintro e w1 ⟨rfl, f1⟩
  have F1 := hid f1
  clear f1 H1
  go_wp2
  go_ret2
  exact ⟨by simp, F1.out⟩
section
variable {W w : World} {ts : List (World → (Nat → Prop) → Prop)} {n m pk tu : Int} {d : ByteArray} {ad : Option Addr} {cap : Nat} {W0 : List Int}
set_option maxRecDepth 20000 in
set_option maxHeartbeats 4000000 in
theorem call_nil1 (g : Things W w ts) (hh : Int) : Calls Tryz.prog 8 #[.pointer none, .agg #[.int .i64 1, .int .i64 n, .int .i64 m, .int .i64 pk, .int .u64 tu, .string d, .slice ad W0.length cap], .int .u64 hh] w fun e w' => e = .returned (ans 11 0 0 0 ⟨#[]⟩ 0) ∧ Things W w' ts := by
  have G : Hid (Things W ((w.alloc (.cells #[.int .i64 1, .int .i64 n, .int .i64 m, .int .i64 pk, .int .u64 tu, .string d, .slice ad W0.length cap] 29)).alloc (.cells #[.int .i64 0, .int .u64 0, .int .i64 0, .int .i64 0, .string ⟨#[]⟩, .int .i64 0] 38)) ((Blk w.heap.size (.cells #[.int .i64 1, .int .i64 n, .int .i64 m, .int .i64 pk, .int .u64 tu, .string d, .slice ad W0.length cap] 29 (0, 0)) :: ts) ++ [Blk (w.heap.size + 1) (.cells #[.int .i64 0, .int .u64 0, .int .i64 0, .int .i64 0, .string ⟨#[]⟩, .int .i64 0] 38 (0, 0))])) := by
    have h := (Things.rot [] ts (g.blk (.cells #[.int .i64 1, .int .i64 n, .int .i64 m, .int .i64 pk, .int .u64 tu, .string d, .slice ad W0.length cap] 29))).blk (.cells #[.int .i64 0, .int .u64 0, .int .i64 0, .int .i64 0, .string ⟨#[]⟩, .int .i64 0] 38)
    rw [World.size_alloc] at h
    exact h
  have HX : Hid (∀ (w1 : World) (P : World → (Nat → Prop) → Prop), Things W w1 (P :: ts) → Things W w1 ts) := fun _ _ h => h.tail
  have H1 : Hid (∀ (w : World) (ts : List (World → (Nat → Prop) → Prop)), Things W w ts → Calls Tryz.prog 16 #[.pointer none, .int .i64 n] w fun e w' => e = .returned (ans 11 0 0 0 ⟨#[]⟩ 0) ∧ Things W w' ts) := fun w ts g => z_malloc g n
  clear g
  generalize W0.length = wl at *
  go_enter Tryz.func8, Tryz.ntmps8
  go_wp2_with fail
  refine (H1.out _ _ G.out).mono ?_
  rintro e w1 ⟨rfl, g1⟩
  have G1 := hid g1
  clear g1 G H1
  have z1 := fun i => box_frz (tz_box G1.out) i
  have b0 := box_cellT (tz_box G1.out) 0 rfl
  have b1 := box_cellT (tz_box G1.out) 1 rfl
  have b2 := box_cellT (tz_box G1.out) 2 rfl
  have b3 := box_cellT (tz_box G1.out) 3 rfl
  have b4 := box_cellT (tz_box G1.out) 4 rfl
  have b5 := box_cellT (tz_box G1.out) 5 rfl
  go_wp2
  clear z1 b0 b1 b2 b3 b4 b5
  obtain ⟨HF, hk⟩ := ans_put (tz_box G1.out) (11) (0) (0) (0) ⟨#[]⟩ (0)
  have TZ := Things.boxes1 G1.out HF
  have k0 := hk 0 _ rfl
  have k1 := hk 1 _ rfl
  have k2 := hk 2 _ rfl
  have k3 := hk 3 _ rfl
  have k4 := hk 4 _ rfl
  have k5 := hk 5 _ rfl
  clear HF hk
  generalize (((((w1.setCell ⟨w.heap.size + 1, 0, none⟩ (.int .i64 (11))).setCell ⟨w.heap.size + 1, 1, none⟩ (.int .u64 (0))).setCell ⟨w.heap.size + 1, 2, none⟩ (.int .i64 (0))).setCell ⟨w.heap.size + 1, 3, none⟩ (.int .i64 (0))).setCell ⟨w.heap.size + 1, 4, none⟩ (.string ⟨#[]⟩)).setCell ⟨w.heap.size + 1, 5, none⟩ (.int .i64 (0)) = wz at *
  exact bodyPost_ret (v := ans (11) (0) (0) (0) ⟨#[]⟩ (0)) (by simp [results, Tryz.results8, go_sem, k0, k1, k2, k3, k4, k5]) rfl ⟨rfl, HX.out _ _ TZ⟩
set_option maxRecDepth 20000 in
set_option maxHeartbeats 4000000 in
theorem call_nil2 (g : Things W w ts) (hh : Int) : Calls Tryz.prog 8 #[.pointer none, .agg #[.int .i64 2, .int .i64 n, .int .i64 m, .int .i64 pk, .int .u64 tu, .string d, .slice ad W0.length cap], .int .u64 hh] w fun e w' => e = .returned (ans 11 0 0 0 ⟨#[]⟩ 0) ∧ Things W w' ts := by
  have G : Hid (Things W ((w.alloc (.cells #[.int .i64 2, .int .i64 n, .int .i64 m, .int .i64 pk, .int .u64 tu, .string d, .slice ad W0.length cap] 29)).alloc (.cells #[.int .i64 0, .int .u64 0, .int .i64 0, .int .i64 0, .string ⟨#[]⟩, .int .i64 0] 38)) ((Blk w.heap.size (.cells #[.int .i64 2, .int .i64 n, .int .i64 m, .int .i64 pk, .int .u64 tu, .string d, .slice ad W0.length cap] 29 (0, 0)) :: ts) ++ [Blk (w.heap.size + 1) (.cells #[.int .i64 0, .int .u64 0, .int .i64 0, .int .i64 0, .string ⟨#[]⟩, .int .i64 0] 38 (0, 0))])) := by
    have h := (Things.rot [] ts (g.blk (.cells #[.int .i64 2, .int .i64 n, .int .i64 m, .int .i64 pk, .int .u64 tu, .string d, .slice ad W0.length cap] 29))).blk (.cells #[.int .i64 0, .int .u64 0, .int .i64 0, .int .i64 0, .string ⟨#[]⟩, .int .i64 0] 38)
    rw [World.size_alloc] at h
    exact h
  have HX : Hid (∀ (w1 : World) (P : World → (Nat → Prop) → Prop), Things W w1 (P :: ts) → Things W w1 ts) := fun _ _ h => h.tail
  have H1 : Hid (∀ (w : World) (ts : List (World → (Nat → Prop) → Prop)), Things W w ts → Calls Tryz.prog 30 #[.pointer none, .int .i64 n, .int .i64 m] w fun e w' => e = .returned (ans 11 0 0 0 ⟨#[]⟩ 0) ∧ Things W w' ts) := fun w ts g => z_calloc g n m
  clear g
  generalize W0.length = wl at *
  go_enter Tryz.func8, Tryz.ntmps8
  go_wp2_with fail
  refine (H1.out _ _ G.out).mono ?_
  rintro e w1 ⟨rfl, g1⟩
  have G1 := hid g1
  clear g1 G H1
  have z1 := fun i => box_frz (tz_box G1.out) i
  have b0 := box_cellT (tz_box G1.out) 0 rfl
  have b1 := box_cellT (tz_box G1.out) 1 rfl
  have b2 := box_cellT (tz_box G1.out) 2 rfl
  have b3 := box_cellT (tz_box G1.out) 3 rfl
  have b4 := box_cellT (tz_box G1.out) 4 rfl
  have b5 := box_cellT (tz_box G1.out) 5 rfl
  go_wp2
  clear z1 b0 b1 b2 b3 b4 b5
  obtain ⟨HF, hk⟩ := ans_put (tz_box G1.out) (11) (0) (0) (0) ⟨#[]⟩ (0)
  have TZ := Things.boxes1 G1.out HF
  have k0 := hk 0 _ rfl
  have k1 := hk 1 _ rfl
  have k2 := hk 2 _ rfl
  have k3 := hk 3 _ rfl
  have k4 := hk 4 _ rfl
  have k5 := hk 5 _ rfl
  clear HF hk
  generalize (((((w1.setCell ⟨w.heap.size + 1, 0, none⟩ (.int .i64 (11))).setCell ⟨w.heap.size + 1, 1, none⟩ (.int .u64 (0))).setCell ⟨w.heap.size + 1, 2, none⟩ (.int .i64 (0))).setCell ⟨w.heap.size + 1, 3, none⟩ (.int .i64 (0))).setCell ⟨w.heap.size + 1, 4, none⟩ (.string ⟨#[]⟩)).setCell ⟨w.heap.size + 1, 5, none⟩ (.int .i64 (0)) = wz at *
  exact bodyPost_ret (v := ans (11) (0) (0) (0) ⟨#[]⟩ (0)) (by simp [results, Tryz.results8, go_sem, k0, k1, k2, k3, k4, k5]) rfl ⟨rfl, HX.out _ _ TZ⟩
set_option maxRecDepth 20000 in
set_option maxHeartbeats 4000000 in
theorem call_nil3 (g : Things W w ts) (hh : Int) : Calls Tryz.prog 8 #[.pointer none, .agg #[.int .i64 3, .int .i64 n, .int .i64 m, .int .i64 pk, .int .u64 tu, .string d, .slice ad W0.length cap], .int .u64 hh] w fun e w' => e = .returned (ans 11 0 0 0 ⟨#[]⟩ 0) ∧ Things W w' ts := by
  have G : Hid (Things W ((w.alloc (.cells #[.int .i64 3, .int .i64 n, .int .i64 m, .int .i64 pk, .int .u64 tu, .string d, .slice ad W0.length cap] 29)).alloc (.cells #[.int .i64 0, .int .u64 0, .int .i64 0, .int .i64 0, .string ⟨#[]⟩, .int .i64 0] 38)) ((Blk w.heap.size (.cells #[.int .i64 3, .int .i64 n, .int .i64 m, .int .i64 pk, .int .u64 tu, .string d, .slice ad W0.length cap] 29 (0, 0)) :: ts) ++ [Blk (w.heap.size + 1) (.cells #[.int .i64 0, .int .u64 0, .int .i64 0, .int .i64 0, .string ⟨#[]⟩, .int .i64 0] 38 (0, 0))])) := by
    have h := (Things.rot [] ts (g.blk (.cells #[.int .i64 3, .int .i64 n, .int .i64 m, .int .i64 pk, .int .u64 tu, .string d, .slice ad W0.length cap] 29))).blk (.cells #[.int .i64 0, .int .u64 0, .int .i64 0, .int .i64 0, .string ⟨#[]⟩, .int .i64 0] 38)
    rw [World.size_alloc] at h
    exact h
  have HX : Hid (∀ (w1 : World) (P : World → (Nat → Prop) → Prop), Things W w1 (P :: ts) → Things W w1 ts) := fun _ _ h => h.tail
  have H1 : Hid (∀ (w : World) (ts : List (World → (Nat → Prop) → Prop)), Things W w ts → Calls Tryz.prog 21 #[.pointer none, .int .u64 hh] w fun e w' => e = .returned (ans 11 0 0 0 ⟨#[]⟩ 0) ∧ Things W w' ts) := fun w ts g => z_free g hh
  clear g
  generalize W0.length = wl at *
  go_enter Tryz.func8, Tryz.ntmps8
  go_wp2_with fail
  refine (H1.out _ _ G.out).mono ?_
  rintro e w1 ⟨rfl, g1⟩
  have G1 := hid g1
  clear g1 G H1
  have z1 := fun i => box_frz (tz_box G1.out) i
  have b0 := box_cellT (tz_box G1.out) 0 rfl
  have b1 := box_cellT (tz_box G1.out) 1 rfl
  have b2 := box_cellT (tz_box G1.out) 2 rfl
  have b3 := box_cellT (tz_box G1.out) 3 rfl
  have b4 := box_cellT (tz_box G1.out) 4 rfl
  have b5 := box_cellT (tz_box G1.out) 5 rfl
  go_wp2
  clear z1 b0 b1 b2 b3 b4 b5
  obtain ⟨HF, hk⟩ := ans_put (tz_box G1.out) (11) (0) (0) (0) ⟨#[]⟩ (0)
  have TZ := Things.boxes1 G1.out HF
  have k0 := hk 0 _ rfl
  have k1 := hk 1 _ rfl
  have k2 := hk 2 _ rfl
  have k3 := hk 3 _ rfl
  have k4 := hk 4 _ rfl
  have k5 := hk 5 _ rfl
  clear HF hk
  generalize (((((w1.setCell ⟨w.heap.size + 1, 0, none⟩ (.int .i64 (11))).setCell ⟨w.heap.size + 1, 1, none⟩ (.int .u64 (0))).setCell ⟨w.heap.size + 1, 2, none⟩ (.int .i64 (0))).setCell ⟨w.heap.size + 1, 3, none⟩ (.int .i64 (0))).setCell ⟨w.heap.size + 1, 4, none⟩ (.string ⟨#[]⟩)).setCell ⟨w.heap.size + 1, 5, none⟩ (.int .i64 (0)) = wz at *
  exact bodyPost_ret (v := ans (11) (0) (0) (0) ⟨#[]⟩ (0)) (by simp [results, Tryz.results8, go_sem, k0, k1, k2, k3, k4, k5]) rfl ⟨rfl, HX.out _ _ TZ⟩
set_option maxRecDepth 20000 in
set_option maxHeartbeats 4000000 in
theorem call_nil4 (g : Things W w ts) (hh : Int) : Calls Tryz.prog 8 #[.pointer none, .agg #[.int .i64 4, .int .i64 n, .int .i64 m, .int .i64 pk, .int .u64 tu, .string d, .slice ad W0.length cap], .int .u64 hh] w fun e w' => e = .returned (ans 11 0 0 0 ⟨#[]⟩ 0) ∧ Things W w' ts := by
  have G : Hid (Things W ((w.alloc (.cells #[.int .i64 4, .int .i64 n, .int .i64 m, .int .i64 pk, .int .u64 tu, .string d, .slice ad W0.length cap] 29)).alloc (.cells #[.int .i64 0, .int .u64 0, .int .i64 0, .int .i64 0, .string ⟨#[]⟩, .int .i64 0] 38)) ((Blk w.heap.size (.cells #[.int .i64 4, .int .i64 n, .int .i64 m, .int .i64 pk, .int .u64 tu, .string d, .slice ad W0.length cap] 29 (0, 0)) :: ts) ++ [Blk (w.heap.size + 1) (.cells #[.int .i64 0, .int .u64 0, .int .i64 0, .int .i64 0, .string ⟨#[]⟩, .int .i64 0] 38 (0, 0))])) := by
    have h := (Things.rot [] ts (g.blk (.cells #[.int .i64 4, .int .i64 n, .int .i64 m, .int .i64 pk, .int .u64 tu, .string d, .slice ad W0.length cap] 29))).blk (.cells #[.int .i64 0, .int .u64 0, .int .i64 0, .int .i64 0, .string ⟨#[]⟩, .int .i64 0] 38)
    rw [World.size_alloc] at h
    exact h
  have HX : Hid (∀ (w1 : World) (P : World → (Nat → Prop) → Prop), Things W w1 (P :: ts) → Things W w1 ts) := fun _ _ h => h.tail
  have H1 : Hid (∀ (w : World) (ts : List (World → (Nat → Prop) → Prop)), Things W w ts → Calls Tryz.prog 24 #[.pointer none, .int .u64 hh, .int .i64 n] w fun e w' => e = .returned (ans 11 0 0 0 ⟨#[]⟩ 0) ∧ Things W w' ts) := fun w ts g => z_realloc g hh n
  clear g
  generalize W0.length = wl at *
  go_enter Tryz.func8, Tryz.ntmps8
  go_wp2_with fail
  refine (H1.out _ _ G.out).mono ?_
  rintro e w1 ⟨rfl, g1⟩
  have G1 := hid g1
  clear g1 G H1
  have z1 := fun i => box_frz (tz_box G1.out) i
  have b0 := box_cellT (tz_box G1.out) 0 rfl
  have b1 := box_cellT (tz_box G1.out) 1 rfl
  have b2 := box_cellT (tz_box G1.out) 2 rfl
  have b3 := box_cellT (tz_box G1.out) 3 rfl
  have b4 := box_cellT (tz_box G1.out) 4 rfl
  have b5 := box_cellT (tz_box G1.out) 5 rfl
  go_wp2
  clear z1 b0 b1 b2 b3 b4 b5
  obtain ⟨HF, hk⟩ := ans_put (tz_box G1.out) (11) (0) (0) (0) ⟨#[]⟩ (0)
  have TZ := Things.boxes1 G1.out HF
  have k0 := hk 0 _ rfl
  have k1 := hk 1 _ rfl
  have k2 := hk 2 _ rfl
  have k3 := hk 3 _ rfl
  have k4 := hk 4 _ rfl
  have k5 := hk 5 _ rfl
  clear HF hk
  generalize (((((w1.setCell ⟨w.heap.size + 1, 0, none⟩ (.int .i64 (11))).setCell ⟨w.heap.size + 1, 1, none⟩ (.int .u64 (0))).setCell ⟨w.heap.size + 1, 2, none⟩ (.int .i64 (0))).setCell ⟨w.heap.size + 1, 3, none⟩ (.int .i64 (0))).setCell ⟨w.heap.size + 1, 4, none⟩ (.string ⟨#[]⟩)).setCell ⟨w.heap.size + 1, 5, none⟩ (.int .i64 (0)) = wz at *
  exact bodyPost_ret (v := ans (11) (0) (0) (0) ⟨#[]⟩ (0)) (by simp [results, Tryz.results8, go_sem, k0, k1, k2, k3, k4, k5]) rfl ⟨rfl, HX.out _ _ TZ⟩
set_option maxRecDepth 20000 in
set_option maxHeartbeats 4000000 in
theorem call_nil5 (g : Things W w ts) (hh : Int) : Calls Tryz.prog 8 #[.pointer none, .agg #[.int .i64 5, .int .i64 n, .int .i64 m, .int .i64 pk, .int .u64 tu, .string d, .slice ad W0.length cap], .int .u64 hh] w fun e w' => e = .returned (ans 11 0 0 0 ⟨#[]⟩ 0) ∧ Things W w' ts := by
  have G : Hid (Things W ((w.alloc (.cells #[.int .i64 5, .int .i64 n, .int .i64 m, .int .i64 pk, .int .u64 tu, .string d, .slice ad W0.length cap] 29)).alloc (.cells #[.int .i64 0, .int .u64 0, .int .i64 0, .int .i64 0, .string ⟨#[]⟩, .int .i64 0] 38)) ((Blk w.heap.size (.cells #[.int .i64 5, .int .i64 n, .int .i64 m, .int .i64 pk, .int .u64 tu, .string d, .slice ad W0.length cap] 29 (0, 0)) :: ts) ++ [Blk (w.heap.size + 1) (.cells #[.int .i64 0, .int .u64 0, .int .i64 0, .int .i64 0, .string ⟨#[]⟩, .int .i64 0] 38 (0, 0))])) := by
    have h := (Things.rot [] ts (g.blk (.cells #[.int .i64 5, .int .i64 n, .int .i64 m, .int .i64 pk, .int .u64 tu, .string d, .slice ad W0.length cap] 29))).blk (.cells #[.int .i64 0, .int .u64 0, .int .i64 0, .int .i64 0, .string ⟨#[]⟩, .int .i64 0] 38)
    rw [World.size_alloc] at h
    exact h
  have HX : Hid (∀ (w1 : World) (P : World → (Nat → Prop) → Prop), Things W w1 (P :: ts) → Things W w1 ts) := fun _ _ h => h.tail
  have H1 : Hid (∀ (w : World) (ts : List (World → (Nat → Prop) → Prop)), Things W w ts → Calls Tryz.prog 18 #[.pointer none, .int .u64 hh] w fun e w' => e = .returned (ans 11 0 0 0 ⟨#[]⟩ 0) ∧ Things W w' ts) := fun w ts g => z_usable g hh
  clear g
  generalize W0.length = wl at *
  go_enter Tryz.func8, Tryz.ntmps8
  go_wp2_with fail
  refine (H1.out _ _ G.out).mono ?_
  rintro e w1 ⟨rfl, g1⟩
  have G1 := hid g1
  clear g1 G H1
  have z1 := fun i => box_frz (tz_box G1.out) i
  have b0 := box_cellT (tz_box G1.out) 0 rfl
  have b1 := box_cellT (tz_box G1.out) 1 rfl
  have b2 := box_cellT (tz_box G1.out) 2 rfl
  have b3 := box_cellT (tz_box G1.out) 3 rfl
  have b4 := box_cellT (tz_box G1.out) 4 rfl
  have b5 := box_cellT (tz_box G1.out) 5 rfl
  go_wp2
  clear z1 b0 b1 b2 b3 b4 b5
  obtain ⟨HF, hk⟩ := ans_put (tz_box G1.out) (11) (0) (0) (0) ⟨#[]⟩ (0)
  have TZ := Things.boxes1 G1.out HF
  have k0 := hk 0 _ rfl
  have k1 := hk 1 _ rfl
  have k2 := hk 2 _ rfl
  have k3 := hk 3 _ rfl
  have k4 := hk 4 _ rfl
  have k5 := hk 5 _ rfl
  clear HF hk
  generalize (((((w1.setCell ⟨w.heap.size + 1, 0, none⟩ (.int .i64 (11))).setCell ⟨w.heap.size + 1, 1, none⟩ (.int .u64 (0))).setCell ⟨w.heap.size + 1, 2, none⟩ (.int .i64 (0))).setCell ⟨w.heap.size + 1, 3, none⟩ (.int .i64 (0))).setCell ⟨w.heap.size + 1, 4, none⟩ (.string ⟨#[]⟩)).setCell ⟨w.heap.size + 1, 5, none⟩ (.int .i64 (0)) = wz at *
  exact bodyPost_ret (v := ans (11) (0) (0) (0) ⟨#[]⟩ (0)) (by simp [results, Tryz.results8, go_sem, k0, k1, k2, k3, k4, k5]) rfl ⟨rfl, HX.out _ _ TZ⟩
set_option maxRecDepth 20000 in
set_option maxHeartbeats 4000000 in
theorem call_nil6 (g : Things W w ts) (hh : Int) : Calls Tryz.prog 8 #[.pointer none, .agg #[.int .i64 6, .int .i64 n, .int .i64 m, .int .i64 pk, .int .u64 tu, .string d, .slice ad W0.length cap], .int .u64 hh] w fun e w' => e = .returned (ans 11 0 0 0 ⟨#[]⟩ 0) ∧ Things W w' ts := by
  have G : Hid (Things W ((w.alloc (.cells #[.int .i64 6, .int .i64 n, .int .i64 m, .int .i64 pk, .int .u64 tu, .string d, .slice ad W0.length cap] 29)).alloc (.cells #[.int .i64 0, .int .u64 0, .int .i64 0, .int .i64 0, .string ⟨#[]⟩, .int .i64 0] 38)) ((Blk w.heap.size (.cells #[.int .i64 6, .int .i64 n, .int .i64 m, .int .i64 pk, .int .u64 tu, .string d, .slice ad W0.length cap] 29 (0, 0)) :: ts) ++ [Blk (w.heap.size + 1) (.cells #[.int .i64 0, .int .u64 0, .int .i64 0, .int .i64 0, .string ⟨#[]⟩, .int .i64 0] 38 (0, 0))])) := by
    have h := (Things.rot [] ts (g.blk (.cells #[.int .i64 6, .int .i64 n, .int .i64 m, .int .i64 pk, .int .u64 tu, .string d, .slice ad W0.length cap] 29))).blk (.cells #[.int .i64 0, .int .u64 0, .int .i64 0, .int .i64 0, .string ⟨#[]⟩, .int .i64 0] 38)
    rw [World.size_alloc] at h
    exact h
  have HX : Hid (∀ (w1 : World) (P : World → (Nat → Prop) → Prop), Things W w1 (P :: ts) → Things W w1 ts) := fun _ _ h => h.tail
  have H1 : Hid (∀ (w : World) (ts : List (World → (Nat → Prop) → Prop)), Things W w ts → Calls Tryz.prog 20 #[.pointer none, .int .u64 hh, .int .i64 n, .int .i64 m] w fun e w' => e = .returned (ans 11 0 0 0 ⟨#[]⟩ 0) ∧ Things W w' ts) := fun w ts g => z_read g hh n m
  clear g
  generalize W0.length = wl at *
  go_enter Tryz.func8, Tryz.ntmps8
  go_wp2_with fail
  refine (H1.out _ _ G.out).mono ?_
  rintro e w1 ⟨rfl, g1⟩
  have G1 := hid g1
  clear g1 G H1
  have z1 := fun i => box_frz (tz_box G1.out) i
  have b0 := box_cellT (tz_box G1.out) 0 rfl
  have b1 := box_cellT (tz_box G1.out) 1 rfl
  have b2 := box_cellT (tz_box G1.out) 2 rfl
  have b3 := box_cellT (tz_box G1.out) 3 rfl
  have b4 := box_cellT (tz_box G1.out) 4 rfl
  have b5 := box_cellT (tz_box G1.out) 5 rfl
  go_wp2
  clear z1 b0 b1 b2 b3 b4 b5
  obtain ⟨HF, hk⟩ := ans_put (tz_box G1.out) (11) (0) (0) (0) ⟨#[]⟩ (0)
  have TZ := Things.boxes1 G1.out HF
  have k0 := hk 0 _ rfl
  have k1 := hk 1 _ rfl
  have k2 := hk 2 _ rfl
  have k3 := hk 3 _ rfl
  have k4 := hk 4 _ rfl
  have k5 := hk 5 _ rfl
  clear HF hk
  generalize (((((w1.setCell ⟨w.heap.size + 1, 0, none⟩ (.int .i64 (11))).setCell ⟨w.heap.size + 1, 1, none⟩ (.int .u64 (0))).setCell ⟨w.heap.size + 1, 2, none⟩ (.int .i64 (0))).setCell ⟨w.heap.size + 1, 3, none⟩ (.int .i64 (0))).setCell ⟨w.heap.size + 1, 4, none⟩ (.string ⟨#[]⟩)).setCell ⟨w.heap.size + 1, 5, none⟩ (.int .i64 (0)) = wz at *
  exact bodyPost_ret (v := ans (11) (0) (0) (0) ⟨#[]⟩ (0)) (by simp [results, Tryz.results8, go_sem, k0, k1, k2, k3, k4, k5]) rfl ⟨rfl, HX.out _ _ TZ⟩
set_option maxRecDepth 20000 in
set_option maxHeartbeats 4000000 in
theorem call_nil7 (g : Things W w ts) (hh : Int) : Calls Tryz.prog 8 #[.pointer none, .agg #[.int .i64 7, .int .i64 n, .int .i64 m, .int .i64 pk, .int .u64 tu, .string d, .slice ad W0.length cap], .int .u64 hh] w fun e w' => e = .returned (ans 11 0 0 0 ⟨#[]⟩ 0) ∧ Things W w' ts := by
  have G : Hid (Things W ((w.alloc (.cells #[.int .i64 7, .int .i64 n, .int .i64 m, .int .i64 pk, .int .u64 tu, .string d, .slice ad W0.length cap] 29)).alloc (.cells #[.int .i64 0, .int .u64 0, .int .i64 0, .int .i64 0, .string ⟨#[]⟩, .int .i64 0] 38)) ((Blk w.heap.size (.cells #[.int .i64 7, .int .i64 n, .int .i64 m, .int .i64 pk, .int .u64 tu, .string d, .slice ad W0.length cap] 29 (0, 0)) :: ts) ++ [Blk (w.heap.size + 1) (.cells #[.int .i64 0, .int .u64 0, .int .i64 0, .int .i64 0, .string ⟨#[]⟩, .int .i64 0] 38 (0, 0))])) := by
    have h := (Things.rot [] ts (g.blk (.cells #[.int .i64 7, .int .i64 n, .int .i64 m, .int .i64 pk, .int .u64 tu, .string d, .slice ad W0.length cap] 29))).blk (.cells #[.int .i64 0, .int .u64 0, .int .i64 0, .int .i64 0, .string ⟨#[]⟩, .int .i64 0] 38)
    rw [World.size_alloc] at h
    exact h
  have HX : Hid (∀ (w1 : World) (P : World → (Nat → Prop) → Prop), Things W w1 (P :: ts) → Things W w1 ts) := fun _ _ h => h.tail
  have H1 : Hid (∀ (w : World) (ts : List (World → (Nat → Prop) → Prop)), Things W w ts → Calls Tryz.prog 19 #[.pointer none, .int .u64 hh, .int .i64 n, .string d] w fun e w' => e = .returned (ans 11 0 0 0 ⟨#[]⟩ 0) ∧ Things W w' ts) := fun w ts g => z_write g hh n d
  clear g
  generalize W0.length = wl at *
  go_enter Tryz.func8, Tryz.ntmps8
  go_wp2_with fail
  refine (H1.out _ _ G.out).mono ?_
  rintro e w1 ⟨rfl, g1⟩
  have G1 := hid g1
  clear g1 G H1
  have z1 := fun i => box_frz (tz_box G1.out) i
  have b0 := box_cellT (tz_box G1.out) 0 rfl
  have b1 := box_cellT (tz_box G1.out) 1 rfl
  have b2 := box_cellT (tz_box G1.out) 2 rfl
  have b3 := box_cellT (tz_box G1.out) 3 rfl
  have b4 := box_cellT (tz_box G1.out) 4 rfl
  have b5 := box_cellT (tz_box G1.out) 5 rfl
  go_wp2
  clear z1 b0 b1 b2 b3 b4 b5
  obtain ⟨HF, hk⟩ := ans_put (tz_box G1.out) (11) (0) (0) (0) ⟨#[]⟩ (0)
  have TZ := Things.boxes1 G1.out HF
  have k0 := hk 0 _ rfl
  have k1 := hk 1 _ rfl
  have k2 := hk 2 _ rfl
  have k3 := hk 3 _ rfl
  have k4 := hk 4 _ rfl
  have k5 := hk 5 _ rfl
  clear HF hk
  generalize (((((w1.setCell ⟨w.heap.size + 1, 0, none⟩ (.int .i64 (11))).setCell ⟨w.heap.size + 1, 1, none⟩ (.int .u64 (0))).setCell ⟨w.heap.size + 1, 2, none⟩ (.int .i64 (0))).setCell ⟨w.heap.size + 1, 3, none⟩ (.int .i64 (0))).setCell ⟨w.heap.size + 1, 4, none⟩ (.string ⟨#[]⟩)).setCell ⟨w.heap.size + 1, 5, none⟩ (.int .i64 (0)) = wz at *
  exact bodyPost_ret (v := ans (11) (0) (0) (0) ⟨#[]⟩ (0)) (by simp [results, Tryz.results8, go_sem, k0, k1, k2, k3, k4, k5]) rfl ⟨rfl, HX.out _ _ TZ⟩
set_option maxRecDepth 20000 in
set_option maxHeartbeats 4000000 in
theorem call_nil8 (g : Things W w ts) (hh : Int) : Calls Tryz.prog 8 #[.pointer none, .agg #[.int .i64 8, .int .i64 n, .int .i64 m, .int .i64 pk, .int .u64 tu, .string d, .slice ad W0.length cap], .int .u64 hh] w fun e w' => e = .returned (ans 11 0 0 0 ⟨#[]⟩ 0) ∧ Things W w' ts := by
  have G : Hid (Things W ((w.alloc (.cells #[.int .i64 8, .int .i64 n, .int .i64 m, .int .i64 pk, .int .u64 tu, .string d, .slice ad W0.length cap] 29)).alloc (.cells #[.int .i64 0, .int .u64 0, .int .i64 0, .int .i64 0, .string ⟨#[]⟩, .int .i64 0] 38)) ((Blk w.heap.size (.cells #[.int .i64 8, .int .i64 n, .int .i64 m, .int .i64 pk, .int .u64 tu, .string d, .slice ad W0.length cap] 29 (0, 0)) :: ts) ++ [Blk (w.heap.size + 1) (.cells #[.int .i64 0, .int .u64 0, .int .i64 0, .int .i64 0, .string ⟨#[]⟩, .int .i64 0] 38 (0, 0))])) := by
    have h := (Things.rot [] ts (g.blk (.cells #[.int .i64 8, .int .i64 n, .int .i64 m, .int .i64 pk, .int .u64 tu, .string d, .slice ad W0.length cap] 29))).blk (.cells #[.int .i64 0, .int .u64 0, .int .i64 0, .int .i64 0, .string ⟨#[]⟩, .int .i64 0] 38)
    rw [World.size_alloc] at h
    exact h
  have HX : Hid (∀ (w1 : World) (P : World → (Nat → Prop) → Prop), Things W w1 (P :: ts) → Things W w1 ts) := fun _ _ h => h.tail
  have H1 : Hid (∀ (w : World) (ts : List (World → (Nat → Prop) → Prop)), Things W w ts → Calls Tryz.prog 17 #[.pointer none, .int .u64 hh, .int .i64 n] w fun e w' => e = .returned (ans 11 0 0 0 ⟨#[]⟩ 0) ∧ Things W w' ts) := fun w ts g => z_restrict g hh n
  clear g
  generalize W0.length = wl at *
  go_enter Tryz.func8, Tryz.ntmps8
  go_wp2_with fail
  refine (H1.out _ _ G.out).mono ?_
  rintro e w1 ⟨rfl, g1⟩
  have G1 := hid g1
  clear g1 G H1
  have z1 := fun i => box_frz (tz_box G1.out) i
  have b0 := box_cellT (tz_box G1.out) 0 rfl
  have b1 := box_cellT (tz_box G1.out) 1 rfl
  have b2 := box_cellT (tz_box G1.out) 2 rfl
  have b3 := box_cellT (tz_box G1.out) 3 rfl
  have b4 := box_cellT (tz_box G1.out) 4 rfl
  have b5 := box_cellT (tz_box G1.out) 5 rfl
  go_wp2
  clear z1 b0 b1 b2 b3 b4 b5
  obtain ⟨HF, hk⟩ := ans_put (tz_box G1.out) (11) (0) (0) (0) ⟨#[]⟩ (0)
  have TZ := Things.boxes1 G1.out HF
  have k0 := hk 0 _ rfl
  have k1 := hk 1 _ rfl
  have k2 := hk 2 _ rfl
  have k3 := hk 3 _ rfl
  have k4 := hk 4 _ rfl
  have k5 := hk 5 _ rfl
  clear HF hk
  generalize (((((w1.setCell ⟨w.heap.size + 1, 0, none⟩ (.int .i64 (11))).setCell ⟨w.heap.size + 1, 1, none⟩ (.int .u64 (0))).setCell ⟨w.heap.size + 1, 2, none⟩ (.int .i64 (0))).setCell ⟨w.heap.size + 1, 3, none⟩ (.int .i64 (0))).setCell ⟨w.heap.size + 1, 4, none⟩ (.string ⟨#[]⟩)).setCell ⟨w.heap.size + 1, 5, none⟩ (.int .i64 (0)) = wz at *
  exact bodyPost_ret (v := ans (11) (0) (0) (0) ⟨#[]⟩ (0)) (by simp [results, Tryz.results8, go_sem, k0, k1, k2, k3, k4, k5]) rfl ⟨rfl, HX.out _ _ TZ⟩
set_option maxRecDepth 20000 in
set_option maxHeartbeats 4000000 in
theorem call_nil10 (g : Things W w ts) (hh : Int) : Calls Tryz.prog 8 #[.pointer none, .agg #[.int .i64 10, .int .i64 n, .int .i64 m, .int .i64 pk, .int .u64 tu, .string d, .slice ad W0.length cap], .int .u64 hh] w fun e w' => e = .returned (ans 0 0 0 0 ⟨#[]⟩ 0) ∧ Things W w' ts := by
  have G : Hid (Things W ((w.alloc (.cells #[.int .i64 10, .int .i64 n, .int .i64 m, .int .i64 pk, .int .u64 tu, .string d, .slice ad W0.length cap] 29)).alloc (.cells #[.int .i64 0, .int .u64 0, .int .i64 0, .int .i64 0, .string ⟨#[]⟩, .int .i64 0] 38)) ((Blk w.heap.size (.cells #[.int .i64 10, .int .i64 n, .int .i64 m, .int .i64 pk, .int .u64 tu, .string d, .slice ad W0.length cap] 29 (0, 0)) :: ts) ++ [Blk (w.heap.size + 1) (.cells #[.int .i64 0, .int .u64 0, .int .i64 0, .int .i64 0, .string ⟨#[]⟩, .int .i64 0] 38 (0, 0))])) := by
    have h := (Things.rot [] ts (g.blk (.cells #[.int .i64 10, .int .i64 n, .int .i64 m, .int .i64 pk, .int .u64 tu, .string d, .slice ad W0.length cap] 29))).blk (.cells #[.int .i64 0, .int .u64 0, .int .i64 0, .int .i64 0, .string ⟨#[]⟩, .int .i64 0] 38)
    rw [World.size_alloc] at h
    exact h
  have HX : Hid (∀ (w1 : World) (P : World → (Nat → Prop) → Prop), Things W w1 (P :: ts) → Things W w1 ts) := fun _ _ h => h.tail
  have H1 : Hid (∀ (w : World) (ts : List (World → (Nat → Prop) → Prop)), Things W w ts → Calls Tryz.prog 9 #[.pointer none] w fun e w' => e = .returned (.tuple #[]) ∧ Things W w' ts) := fun w ts g => (z_drop w).mono fun e w' ⟨he, h⟩ => ⟨he, h ▸ g⟩
  clear g
  generalize W0.length = wl at *
  go_enter Tryz.func8, Tryz.ntmps8
  go_wp2_with fail
  refine (H1.out _ _ G.out).mono ?_
  rintro e w1 ⟨rfl, g1⟩
  have G1 := hid g1
  clear g1 G H1
  have z1 := fun i => box_frz (tz_box G1.out) i
  have b0 := box_cellT (tz_box G1.out) 0 rfl
  have b1 := box_cellT (tz_box G1.out) 1 rfl
  have b2 := box_cellT (tz_box G1.out) 2 rfl
  have b3 := box_cellT (tz_box G1.out) 3 rfl
  have b4 := box_cellT (tz_box G1.out) 4 rfl
  have b5 := box_cellT (tz_box G1.out) 5 rfl
  go_wp2
  clear z1 b0 b1 b2 b3 b4 b5
  obtain ⟨HF, hk⟩ := ans_put (tz_box G1.out) (0) (0) (0) (0) ⟨#[]⟩ (0)
  have TZ := Things.boxes1 G1.out HF
  have k0 := hk 0 _ rfl
  have k1 := hk 1 _ rfl
  have k2 := hk 2 _ rfl
  have k3 := hk 3 _ rfl
  have k4 := hk 4 _ rfl
  have k5 := hk 5 _ rfl
  clear HF hk
  generalize (((((w1.setCell ⟨w.heap.size + 1, 0, none⟩ (.int .i64 (0))).setCell ⟨w.heap.size + 1, 1, none⟩ (.int .u64 (0))).setCell ⟨w.heap.size + 1, 2, none⟩ (.int .i64 (0))).setCell ⟨w.heap.size + 1, 3, none⟩ (.int .i64 (0))).setCell ⟨w.heap.size + 1, 4, none⟩ (.string ⟨#[]⟩)).setCell ⟨w.heap.size + 1, 5, none⟩ (.int .i64 (0)) = wz at *
  exact bodyPost_ret (v := ans (0) (0) (0) (0) ⟨#[]⟩ (0)) (by simp [results, Tryz.results8, go_sem, k0, k1, k2, k3, k4, k5]) rfl ⟨rfl, HX.out _ _ TZ⟩
set_option maxRecDepth 20000 in
set_option maxHeartbeats 4000000 in
theorem call_nil11 (g : Things W w ts) (hh : Int) {kd : Int} (h1 : kd ≠ 1) (h2 : kd ≠ 2) (h3 : kd ≠ 3) (h4 : kd ≠ 4) (h5 : kd ≠ 5) (h6 : kd ≠ 6) (h7 : kd ≠ 7) (h8 : kd ≠ 8) (h9 : kd ≠ 9) (h10 : kd ≠ 10) : Calls Tryz.prog 8 #[.pointer none, .agg #[.int .i64 kd, .int .i64 n, .int .i64 m, .int .i64 pk, .int .u64 tu, .string d, .slice ad W0.length cap], .int .u64 hh] w fun e w' => e = .returned (ans 11 0 0 0 ⟨#[]⟩ 0) ∧ Things W w' ts := by
  have G : Hid (Things W ((w.alloc (.cells #[.int .i64 kd, .int .i64 n, .int .i64 m, .int .i64 pk, .int .u64 tu, .string d, .slice ad W0.length cap] 29)).alloc (.cells #[.int .i64 0, .int .u64 0, .int .i64 0, .int .i64 0, .string ⟨#[]⟩, .int .i64 0] 38)) ((Blk w.heap.size (.cells #[.int .i64 kd, .int .i64 n, .int .i64 m, .int .i64 pk, .int .u64 tu, .string d, .slice ad W0.length cap] 29 (0, 0)) :: ts) ++ [Blk (w.heap.size + 1) (.cells #[.int .i64 0, .int .u64 0, .int .i64 0, .int .i64 0, .string ⟨#[]⟩, .int .i64 0] 38 (0, 0))])) := by
    have h := (Things.rot [] ts (g.blk (.cells #[.int .i64 kd, .int .i64 n, .int .i64 m, .int .i64 pk, .int .u64 tu, .string d, .slice ad W0.length cap] 29))).blk (.cells #[.int .i64 0, .int .u64 0, .int .i64 0, .int .i64 0, .string ⟨#[]⟩, .int .i64 0] 38)
    rw [World.size_alloc] at h
    exact h
  have HX : Hid (∀ (w1 : World) (P : World → (Nat → Prop) → Prop), Things W w1 (P :: ts) → Things W w1 ts) := fun _ _ h => h.tail
  have H1 : Hid (∀ (w : World) (ts : List (World → (Nat → Prop) → Prop)), Things W w ts → Calls Tryz.prog 28 #[.pointer none, .int .i64 n, .int .i64 m] w fun e w' => e = .returned (.int .i64 11) ∧ Things W w' ts) := fun w ts g => (z_fits n m w).mono fun e w' ⟨he, h⟩ => ⟨he, h ▸ g⟩
  clear g
  generalize W0.length = wl at *
  go_enter Tryz.func8, Tryz.ntmps8
  go_wp2_with fail
  refine (H1.out _ _ G.out).mono ?_
  rintro e w1 ⟨rfl, g1⟩
  have G1 := hid g1
  clear g1 G H1
  have z1 := fun i => box_frz (tz_box G1.out) i
  have b0 := box_cellT (tz_box G1.out) 0 rfl
  have b1 := box_cellT (tz_box G1.out) 1 rfl
  have b2 := box_cellT (tz_box G1.out) 2 rfl
  have b3 := box_cellT (tz_box G1.out) 3 rfl
  have b4 := box_cellT (tz_box G1.out) 4 rfl
  have b5 := box_cellT (tz_box G1.out) 5 rfl
  go_wp2
  clear z1 b0 b1 b2 b3 b4 b5
  obtain ⟨HF, hk⟩ := ans_put (tz_box G1.out) (11) (0) (0) (0) ⟨#[]⟩ (0)
  have TZ := Things.boxes1 G1.out HF
  have k0 := hk 0 _ rfl
  have k1 := hk 1 _ rfl
  have k2 := hk 2 _ rfl
  have k3 := hk 3 _ rfl
  have k4 := hk 4 _ rfl
  have k5 := hk 5 _ rfl
  clear HF hk
  generalize (((((w1.setCell ⟨w.heap.size + 1, 0, none⟩ (.int .i64 (11))).setCell ⟨w.heap.size + 1, 1, none⟩ (.int .u64 (0))).setCell ⟨w.heap.size + 1, 2, none⟩ (.int .i64 (0))).setCell ⟨w.heap.size + 1, 3, none⟩ (.int .i64 (0))).setCell ⟨w.heap.size + 1, 4, none⟩ (.string ⟨#[]⟩)).setCell ⟨w.heap.size + 1, 5, none⟩ (.int .i64 (0)) = wz at *
  exact bodyPost_ret (v := ans (11) (0) (0) (0) ⟨#[]⟩ (0)) (by simp [results, Tryz.results8, go_sem, k0, k1, k2, k3, k4, k5]) rfl ⟨rfl, HX.out _ _ TZ⟩
set_option maxRecDepth 20000 in
set_option maxHeartbeats 4000000 in
theorem call_nil9 (g : Things W w ts) (hh : Int) (hl : NumsAt w ad W0) (hlW : W0.length ≤ 17592186044416) : Calls Tryz.prog 8 #[.pointer none, .agg #[.int .i64 9, .int .i64 n, .int .i64 m, .int .i64 pk, .int .u64 tu, .string d, .slice ad W0.length cap], .int .u64 hh] w fun e w' => e = .returned (ans 11 0 0 0 ⟨#[]⟩ 0) ∧ Things W w' ts := by
  have G : Hid (Things W ((w.alloc (.cells #[.int .i64 9, .int .i64 n, .int .i64 m, .int .i64 pk, .int .u64 tu, .string d, .slice ad W0.length cap] 29)).alloc (.cells #[.int .i64 0, .int .u64 0, .int .i64 0, .int .i64 0, .string ⟨#[]⟩, .int .i64 0] 38)) ((Blk w.heap.size (.cells #[.int .i64 9, .int .i64 n, .int .i64 m, .int .i64 pk, .int .u64 tu, .string d, .slice ad W0.length cap] 29 (0, 0)) :: ts) ++ [Blk (w.heap.size + 1) (.cells #[.int .i64 0, .int .u64 0, .int .i64 0, .int .i64 0, .string ⟨#[]⟩, .int .i64 0] 38 (0, 0))])) := by
    have h := (Things.rot [] ts (g.blk (.cells #[.int .i64 9, .int .i64 n, .int .i64 m, .int .i64 pk, .int .u64 tu, .string d, .slice ad W0.length cap] 29))).blk (.cells #[.int .i64 0, .int .u64 0, .int .i64 0, .int .i64 0, .string ⟨#[]⟩, .int .i64 0] 38)
    rw [World.size_alloc] at h
    exact h
  have HX : Hid (∀ (w1 : World) (P : World → (Nat → Prop) → Prop), Things W w1 (P :: ts) → Things W w1 ts) := fun _ _ h => h.tail
  have H1 : Hid (∀ (w : World) (v : Value) (ts : List (World → (Nat → Prop) → Prop)), Things W w ts → Calls Tryz.prog 31 #[.pointer none, .int .i64 n, v] w fun e w' => e = .returned (.int .i64 11) ∧ Things W w' ts) := fun w v ts g => (z_resize n v w).mono fun e w' ⟨he, h⟩ => ⟨he, h ▸ g⟩
  have HD : Hid (∀ w1, Fr (fun _ => False) w w1 → ∃ ad' cap' w', (Builtin.append_ #[24, 24] 24 #[.slice (some ⟨w1.heap.size, 0, none⟩) 0 0, .slice ad W0.length cap]).run Tryz.prog (w1.alloc (.cells #[] 3)) = .ok (.slice ad' W0.length cap') w' ∧ Fr (fun _ => False) w1 w') := fun w1 f => by
    obtain ⟨ad', cap', w', h1, _, h3, _⟩ := run_dup (w := w1) 24 cap (hl.fr f) hlW
    exact ⟨ad', cap', w', h1, h3⟩
  have HF0 : Fr (fun _ => False) w ((w.alloc (.cells #[.int .i64 9, .int .i64 n, .int .i64 m, .int .i64 pk, .int .u64 tu, .string d, .slice ad W0.length cap] 29)).alloc (.cells #[.int .i64 0, .int .u64 0, .int .i64 0, .int .i64 0, .string ⟨#[]⟩, .int .i64 0] 38)) := ((Fr.refl _ _).alloc _).alloc _
  clear g hl hlW
  generalize W0.length = wl at *
  go_enter Tryz.func8, Tryz.ntmps8
  go_wp2_with fail
  generalize (w.alloc (.cells #[.int .i64 9, .int .i64 n, .int .i64 m, .int .i64 pk, .int .u64 tu, .string d, .slice ad wl cap] 29)).alloc (.cells #[.int .i64 0, .int .u64 0, .int .i64 0, .int .i64 0, .string ⟨#[]⟩, .int .i64 0] 38) = wa at *
  have H2 : Hid (∀ w4, Things W w4 ((Blk w.heap.size (.cells #[.int .i64 9, .int .i64 n, .int .i64 m, .int .i64 pk, .int .u64 tu, .string d, .slice ad wl cap] 29 (0, 0)) :: ts) ++ [Blk (w.heap.size + 1) (.cells #[.int .i64 0, .int .u64 0, .int .i64 0, .int .i64 0, .string ⟨#[]⟩, .int .i64 0] 38 (0, 0))]) → (((((((w4.setCell ⟨w.heap.size + 1, 0, none⟩ (.int .i64 (11))).setCell ⟨w.heap.size + 1, 1, none⟩ (.int .u64 (0))).setCell ⟨w.heap.size + 1, 2, none⟩ (.int .i64 (0))).setCell ⟨w.heap.size + 1, 3, none⟩ (.int .i64 (0))).setCell ⟨w.heap.size + 1, 4, none⟩ (.string ⟨#[]⟩)).setCell ⟨w.heap.size + 1, 5, none⟩ (.int .i64 (0))).cell? ⟨w.heap.size, 1, none⟩ = some (.int .i64 n) ∧ ((((((w4.setCell ⟨w.heap.size + 1, 0, none⟩ (.int .i64 (11))).setCell ⟨w.heap.size + 1, 1, none⟩ (.int .u64 (0))).setCell ⟨w.heap.size + 1, 2, none⟩ (.int .i64 (0))).setCell ⟨w.heap.size + 1, 3, none⟩ (.int .i64 (0))).setCell ⟨w.heap.size + 1, 4, none⟩ (.string ⟨#[]⟩)).setCell ⟨w.heap.size + 1, 5, none⟩ (.int .i64 (0))).cell? ⟨w.heap.size, 6, none⟩ = some (.slice ad wl cap)) ∧ (∀ (i : Nat) (v : Value), (#[.int .i64 11, .int .u64 0, .int .i64 0, .int .i64 0, .string ⟨#[]⟩, .int .i64 0] : Array Value)[i]? = some v → ((((((w4.setCell ⟨w.heap.size + 1, 0, none⟩ (.int .i64 (11))).setCell ⟨w.heap.size + 1, 1, none⟩ (.int .u64 (0))).setCell ⟨w.heap.size + 1, 2, none⟩ (.int .i64 (0))).setCell ⟨w.heap.size + 1, 3, none⟩ (.int .i64 (0))).setCell ⟨w.heap.size + 1, 4, none⟩ (.string ⟨#[]⟩)).setCell ⟨w.heap.size + 1, 5, none⟩ (.int .i64 (0))).cell? ⟨w.heap.size + 1, i, none⟩ = some v) ∧ Things W ((((((w4.setCell ⟨w.heap.size + 1, 0, none⟩ (.int .i64 (11))).setCell ⟨w.heap.size + 1, 1, none⟩ (.int .u64 (0))).setCell ⟨w.heap.size + 1, 2, none⟩ (.int .i64 (0))).setCell ⟨w.heap.size + 1, 3, none⟩ (.int .i64 (0))).setCell ⟨w.heap.size + 1, 4, none⟩ (.string ⟨#[]⟩)).setCell ⟨w.heap.size + 1, 5, none⟩ (.int .i64 (0))) ts) := fun w4 g4 => by
    obtain ⟨HF, hk⟩ := ans_put (tz_box g4) 11 0 0 0 ⟨#[]⟩ 0
    have TZ := Things.boxes1 g4 HF
    exact ⟨⟨box_cellT (TZ.cells 0 rfl) 1 rfl, box_cellT (TZ.cells 0 rfl) 6 rfl⟩, hk, HX.out _ _ TZ⟩
  have HCC : Hid (∀ w1, Things W w1 ((Blk w.heap.size (.cells #[.int .i64 9, .int .i64 n, .int .i64 m, .int .i64 pk, .int .u64 tu, .string d, .slice ad wl cap] 29 (0, 0)) :: ts) ++ [Blk (w.heap.size + 1) (.cells #[.int .i64 0, .int .u64 0, .int .i64 0, .int .i64 0, .string ⟨#[]⟩, .int .i64 0] 38 (0, 0))]) → w1.cell? ⟨w.heap.size, 1, none⟩ = some (.int .i64 n) ∧ w1.cell? ⟨w.heap.size, 6, none⟩ = some (.slice ad wl cap)) := fun w1 h => ⟨box_cellT (h.cells 0 rfl) 1 rfl, box_cellT (h.cells 0 rfl) 6 rfl⟩
  have gd := G.out.kept ((Fr.refl _ _).drew)
  obtain ⟨ad', cap', w3, hr, f3⟩ := HD.out _ (HF0.trans (Fr.refl _ _).drew)
  rw [show wa.drew.heap.size = wa.heap.size from by simp] at hr
  have hrun : (Builtin.append_ #[24, 24] 24 #[.slice (some ⟨wa.heap.size, 0, none⟩) 0 0, .slice ad wl cap]).run Tryz.prog (wa.alloc (.cells #[] 3)).drew = .ok (.slice ad' wl cap') w3 := hr
  have ge := gd.kept ((Fr.refl _ _).alloc (.cells #[] 3))
  have g3 := gd.kept f3
  have G3 := hid g3
  obtain ⟨a2, a3⟩ := HCC.out _ gd
  obtain ⟨b2, b3⟩ := HCC.out _ ge
  obtain ⟨d2, d3⟩ := HCC.out _ g3
  have b2' : (wa.alloc (.cells #[] 3)).drew.cell? ⟨w.heap.size, 1, none⟩ = some (.int .i64 n) := b2
  have b3' : (wa.alloc (.cells #[] 3)).drew.cell? ⟨w.heap.size, 6, none⟩ = some (.slice ad wl cap) := b3
  clear hr gd ge g3 HD b2 b3 f3 HF0
  go_region_held3 (fun w' => w'.cell? ⟨w.heap.size, 1, none⟩ = some (.int .i64 n) ∧ w'.cell? ⟨w.heap.size, 6, none⟩ = some (.slice ad wl cap)) (first | exact ⟨by with_reducible assumption, by with_reducible assumption⟩ | go_keep) (first | (refine app_arm rfl (.tmp 70) (.tmp 72) _ _ rfl rfl rfl hrun ?_) | (go_at_call 31; refine (H1.out _ _ _ G3.out).mono ?_; rintro e w4 ⟨rfl, g4⟩; have G4 := hid g4; obtain ⟨n2, n3⟩ := HCC.out _ g4; obtain ⟨⟨s2, s3⟩, hk, tz⟩ := H2.out _ g4; have TZ := hid tz; have HK := hid hk; have z1 := fun i => box_frz (tz_box G4.out) i; have b0 := box_cellT (tz_box G4.out) 0 rfl; have b1 := box_cellT (tz_box G4.out) 1 rfl; have b2 := box_cellT (tz_box G4.out) 2 rfl; have b3 := box_cellT (tz_box G4.out) 3 rfl; have b4 := box_cellT (tz_box G4.out) 4 rfl; have b5 := box_cellT (tz_box G4.out) 5 rfl; clear g4 tz hk))
  all_goals
    go_wp2
    clear z1 b0 b1 b2 b3 b4 b5
    have k0 := HK.out 0 _ rfl
    have k1 := HK.out 1 _ rfl
    have k2 := HK.out 2 _ rfl
    have k3 := HK.out 3 _ rfl
    have k4 := HK.out 4 _ rfl
    have k5 := HK.out 5 _ rfl
    exact bodyPost_ret (v := ans 11 0 0 0 ⟨#[]⟩ 0) (by simp [results, Tryz.results8, go_sem, k0, k1, k2, k3, k4, k5]) rfl ⟨rfl, TZ.out⟩
theorem call_nil (g : Things W w ts) (hh : Int) {o : O18} (hl : NumsAt w o.ad o.W) (hlW : o.W.length ≤ 17592186044416) : Calls Tryz.prog 8 #[.pointer none, .agg o.cs, .int .u64 hh] w fun e w' => e = .returned (ans (if o.kd = 10 then 0 else 11) 0 0 0 ⟨#[]⟩ 0) ∧ Things W w' ts := by
  obtain ⟨kd, n, m, pk, tu, d, ad, cap, W0⟩ := o
  unfold O18.cs
  simp only at hl hlW ⊢
  by_cases h1 : kd = 1
  · subst h1
    exact call_nil1 g hh
  by_cases h2 : kd = 2
  · subst h2
    exact call_nil2 g hh
  by_cases h3 : kd = 3
  · subst h3
    exact call_nil3 g hh
  by_cases h4 : kd = 4
  · subst h4
    exact call_nil4 g hh
  by_cases h5 : kd = 5
  · subst h5
    exact call_nil5 g hh
  by_cases h6 : kd = 6
  · subst h6
    exact call_nil6 g hh
  by_cases h7 : kd = 7
  · subst h7
    exact call_nil7 g hh
  by_cases h8 : kd = 8
  · subst h8
    exact call_nil8 g hh
  by_cases h9 : kd = 9
  · subst h9
    exact call_nil9 g hh hl hlW
  by_cases h10 : kd = 10
  · subst h10
    exact call_nil10 g hh
  rw [if_neg h10]
  exact call_nil11 g hh h1 h2 h3 h4 h5 h6 h7 h8 h9 h10
end
end Go.Proofs.YtioplfbkfokkfaaGreatDoor
