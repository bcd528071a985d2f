/-
  What the calls of package tenant answer of a tenant that is none.
-/
import Derived.Test.YtioplfbkfokkfaaGreatDoorTnCallsC
namespace Go.Proofs.YtioplfbkfokkfaaGreatDoor
open Go.RowKit
open An

section
variable {W w : World} {ts : List (World → (Nat → Prop) → Prop)}
theorem tz_box {B : Nat} {ob : Obj} (g : Things W w (ts ++ [Blk B ob])) : w.heap[B]? = some ob := by
  obtain ⟨U, h, _⟩ := g.get ts.length (P := Blk B ob) (by simp)
  exact h.1
theorem tz_box1 {A B : Nat} {oa ob : Obj} (g : Things W w (ts ++ [Blk A oa] ++ [Blk B ob])) : w.heap[A]? = some oa := by
  obtain ⟨U, h, _⟩ := g.get ts.length (P := Blk A oa) (by simp)
  exact h.1
set_option maxRecDepth 20000 in
theorem z_charged (w : World) : Calls Tryz.prog 12 #[.pointer none] w fun e w' => e = .returned (.int .i64 0) ∧ w' = w := by
  go_enter Tryz.func12, Tryz.ntmps12
  go_wp2
  go_ret
  exact ⟨by simp, rfl⟩
set_option maxRecDepth 20000 in
theorem z_quota (w : World) : Calls Tryz.prog 13 #[.pointer none] w fun e w' => e = .returned (.int .i64 0) ∧ w' = w := by
  go_enter Tryz.func13, Tryz.ntmps13
  go_wp2
  go_ret
  exact ⟨by simp, rfl⟩
set_option maxRecDepth 20000 in
theorem z_serial (w : World) : Calls Tryz.prog 14 #[.pointer none] w fun e w' => e = .returned (.int .i64 0) ∧ w' = w := by
  go_enter Tryz.func14, Tryz.ntmps14
  go_wp2
  go_ret
  exact ⟨by simp, rfl⟩
set_option maxRecDepth 20000 in
theorem z_heapN (w : World) : Calls Tryz.prog 11 #[.pointer none] w fun e w' => e = .returned (.pointer none) ∧ w' = w := by
  go_enter Tryz.func11, Tryz.ntmps11
  go_wp2
  go_ret
  exact ⟨by simp, rfl⟩
set_option maxRecDepth 20000 in
theorem z_blocks (w : World) : Calls Tryz.prog 10 #[.pointer none] w fun e w' => e = .returned (.slice none 0 0) ∧ w' = w := by
  go_enter Tryz.func10, Tryz.ntmps10
  go_wp2
  go_ret
  exact ⟨by simp, rfl⟩
set_option maxRecDepth 20000 in
theorem z_drop (w : World) : Calls Tryz.prog 9 #[.pointer none] w fun e w' => e = .returned (.tuple #[]) ∧ w' = w := by
  go_enter Tryz.func9, Tryz.ntmps9
  go_wp2
  refine bodyPost_ret (results_none rfl _ _ _) rfl ?_
  exact ⟨rfl, rfl⟩
set_option maxRecDepth 20000 in
theorem z_fits (q p : Int) (w : World) : Calls Tryz.prog 28 #[.pointer none, .int .i64 q, .int .i64 p] w fun e w' => e = .returned (.int .i64 11) ∧ w' = w := by
  go_enter Tryz.func28, Tryz.ntmps28
  go_wp2
  go_ret
  exact ⟨by simp, rfl⟩
set_option maxRecDepth 20000 in
theorem z_resize (q : Int) (v : Value) (w : World) : Calls Tryz.prog 31 #[.pointer none, .int .i64 q, v] w fun e w' => e = .returned (.int .i64 11) ∧ w' = w := by
  go_enter Tryz.func31, Tryz.ntmps31
  go_wp2
  go_ret
  exact ⟨by simp, rfl⟩
set_option maxRecDepth 20000 in
theorem z_find (b r : Int) (w : World) : Calls Tryz.prog 45 #[.pointer none, .int .u64 b, .int .i64 r] w fun e w' => e = .returned (.tuple #[.int .i64 0, .int .i64 11]) ∧ w' = w := by
  go_enter Tryz.func45, Tryz.ntmps45
  go_wp2
  go_ret2
  exact ⟨by simp, rfl⟩
set_option maxRecDepth 20000 in
theorem z_take (n : Int) (w : World) : Calls Tryz.prog 40 #[.pointer none, .int .i64 n] w fun e w' => e = .returned (.tuple #[.int .i64 0, .int .i64 11]) ∧ w' = w := by
  go_enter Tryz.func40, Tryz.ntmps40
  go_wp2
  go_ret2
  exact ⟨by simp, rfl⟩
set_option maxRecDepth 20000 in
theorem z_reach (b r f n : Int) (w : World) : Calls Tryz.prog 46 #[.pointer none, .int .u64 b, .int .i64 r, .int .i64 f, .int .i64 n] w fun e w' => e = .returned (.tuple #[.int .i64 0, .int .i64 11]) ∧ w' = w := by
  have H1 := hid fun (w : World) => z_find b r w
  go_enter Tryz.func46, Tryz.ntmps46
  go_wp2_with fail
  refine (H1.out _).mono ?_
  rintro e w1 ⟨rfl, rfl⟩
  go_wp2
  go_ret2
  exact ⟨by simp, rfl⟩
set_option maxRecDepth 20000 in
set_option maxHeartbeats 1000000 in
theorem z_say (g : Things W w ts) (E hd ad n : Int) (d : ByteArray) (cg : Int) : Calls Tryz.prog 44 #[.pointer none, ans E hd ad n d cg] w fun e w' => e = .returned (ans E hd ad n d 0) ∧ Things W w' ts := by
  have G : Hid (Things W ((w.alloc (.cells #[.int .i64 E, .int .u64 hd, .int .i64 ad, .int .i64 n, .string d, .int .i64 cg] 38)).alloc (.cells #[.int .i64 0, .int .u64 0, .int .i64 0, .int .i64 0, .string ⟨#[]⟩, .int .i64 0] 38)) (ts ++ [Blk w.heap.size (.cells #[.int .i64 E, .int .u64 hd, .int .i64 ad, .int .i64 n, .string d, .int .i64 cg] 38 (0, 0))] ++ [Blk (w.heap.size + 1) (.cells #[.int .i64 0, .int .u64 0, .int .i64 0, .int .i64 0, .string ⟨#[]⟩, .int .i64 0] 38 (0, 0))])) := by
    have h := (g.blk (.cells #[.int .i64 E, .int .u64 hd, .int .i64 ad, .int .i64 n, .string d, .int .i64 cg] 38 (0, 0))).blk (.cells #[.int .i64 0, .int .u64 0, .int .i64 0, .int .i64 0, .string ⟨#[]⟩, .int .i64 0] 38 (0, 0))
    rw [World.size_alloc] at h
    exact h
  have H1 : Hid (∀ (w : World) (ts : List (World → (Nat → Prop) → Prop)), Things W w ts → Calls Tryz.prog 12 #[.pointer none] w fun e w' => e = .returned (.int .i64 0) ∧ Things W w' ts) := fun w ts g => (z_charged w).mono fun e w' ⟨he, e2⟩ => ⟨he, e2 ▸ g⟩
  clear g
  go_enter Tryz.func44, Tryz.ntmps44
  go_wp2_with fail
  refine (H1.out _ _ G.out).mono ?_
  rintro e w1 ⟨rfl, g1⟩
  have G1 := hid g1
  have z0 := fun i => box_frz (tz_box1 g1) i
  have z1 := fun i => box_frz (tz_box g1) i
  have c0 := box_cellT (tz_box1 g1) 0 rfl
  have c1 := box_cellT (tz_box1 g1) 1 rfl
  have c2 := box_cellT (tz_box1 g1) 2 rfl
  have c3 := box_cellT (tz_box1 g1) 3 rfl
  have c4 := box_cellT (tz_box1 g1) 4 rfl
  have c5 := box_cellT (tz_box1 g1) 5 rfl
  have b0 := box_cellT (tz_box g1) 0 rfl
  have b1 := box_cellT (tz_box g1) 1 rfl
  have b2 := box_cellT (tz_box g1) 2 rfl
  have b3 := box_cellT (tz_box g1) 3 rfl
  have b4 := box_cellT (tz_box g1) 4 rfl
  have b5 := box_cellT (tz_box g1) 5 rfl
  clear g1 G H1
  go_wp2
  have hb := tz_box G1.out
  have HF : Fr (fun i => i = w.heap.size ∨ i = w.heap.size + 1) w1 (((((((w1.setCell ⟨w.heap.size, 5, none⟩ (.int .i64 0)).setCell ⟨w.heap.size + 1, 0, none⟩ (.int .i64 E)).setCell ⟨w.heap.size + 1, 1, none⟩ (.int .u64 hd)).setCell ⟨w.heap.size + 1, 2, none⟩ (.int .i64 ad)).setCell ⟨w.heap.size + 1, 3, none⟩ (.int .i64 n)).setCell ⟨w.heap.size + 1, 4, none⟩ (.string d)).setCell ⟨w.heap.size + 1, 5, none⟩ (.int .i64 0)) :=
    ((((((Fr.setCell (p := ⟨w.heap.size, 5, none⟩) (Fr.refl _ _) (.inl rfl) _).setCell (p := ⟨w.heap.size + 1, 0, none⟩) (.inr rfl) _).setCell (p := ⟨w.heap.size + 1, 1, none⟩) (.inr rfl) _).setCell (p := ⟨w.heap.size + 1, 2, none⟩) (.inr rfl) _).setCell (p := ⟨w.heap.size + 1, 3, none⟩) (.inr rfl) _).setCell (p := ⟨w.heap.size + 1, 4, none⟩) (.inr rfl) _).setCell (p := ⟨w.heap.size + 1, 5, none⟩) (.inr rfl) _
  have hz : (((((((w1.setCell ⟨w.heap.size, 5, none⟩ (.int .i64 0)).setCell ⟨w.heap.size + 1, 0, none⟩ (.int .i64 E)).setCell ⟨w.heap.size + 1, 1, none⟩ (.int .u64 hd)).setCell ⟨w.heap.size + 1, 2, none⟩ (.int .i64 ad)).setCell ⟨w.heap.size + 1, 3, none⟩ (.int .i64 n)).setCell ⟨w.heap.size + 1, 4, none⟩ (.string d)).setCell ⟨w.heap.size + 1, 5, none⟩ (.int .i64 0)).heap[w.heap.size + 1]? = some (.cells #[.int .i64 E, .int .u64 hd, .int .i64 ad, .int .i64 n, .string d, .int .i64 0] 38 (0, 0)) := by
    simp [World.setCell, Array.getElem?_modify, hb]
  have TT := Things.boxes2 G1.out HF
  have k0 := box_cellT hz 0 rfl
  have k1 := box_cellT hz 1 rfl
  have k2 := box_cellT hz 2 rfl
  have k3 := box_cellT hz 3 rfl
  have k4 := box_cellT hz 4 rfl
  have k5 := box_cellT hz 5 rfl
  clear hz HF hb G1 z0 z1 c0 c1 c2 c3 c4 c5 b0 b1 b2 b3 b4 b5
  generalize ((((((w1.setCell ⟨w.heap.size, 5, none⟩ (.int .i64 0)).setCell ⟨w.heap.size + 1, 0, none⟩ (.int .i64 E)).setCell ⟨w.heap.size + 1, 1, none⟩ (.int .u64 hd)).setCell ⟨w.heap.size + 1, 2, none⟩ (.int .i64 ad)).setCell ⟨w.heap.size + 1, 3, none⟩ (.int .i64 n)).setCell ⟨w.heap.size + 1, 4, none⟩ (.string d)).setCell ⟨w.heap.size + 1, 5, none⟩ (.int .i64 0) = w3 at *
  exact bodyPost_ret (v := ans E hd ad n d 0) (by simp [results, Tryz.results44, go_sem, k0, k1, k2, k3, k4, k5]) rfl ⟨rfl, TT⟩
set_option maxRecDepth 20000 in
theorem z_refuse (g : Things W w ts) (E : Int) : Calls Tryz.prog 41 #[.pointer none, .int .i64 E] w fun e w' => e = .returned (ans E 0 0 0 ⟨#[]⟩ 0) ∧ Things W w' ts := by
  have G : Hid (Things W (w.alloc (.cells #[.int .i64 0, .int .u64 0, .int .i64 0, .int .i64 0, .string ⟨#[]⟩, .int .i64 0] 38)) (ts ++ [Blk w.heap.size (.cells #[.int .i64 0, .int .u64 0, .int .i64 0, .int .i64 0, .string ⟨#[]⟩, .int .i64 0] 38 (0, 0))])) := g.blk (.cells #[.int .i64 0, .int .u64 0, .int .i64 0, .int .i64 0, .string ⟨#[]⟩, .int .i64 0] 38 (0, 0))
  have H1 := hid fun (w : World) (ts : List (World → (Nat → Prop) → Prop)) (g : Things W w ts) => z_say g E 0 0 0 ⟨#[]⟩ 0
  clear g
  go_enter Tryz.func41, Tryz.ntmps41
  go_wp2_with fail
  refine (H1.out _ _ G.out).mono ?_
  rintro e w1 ⟨rfl, g1⟩
  have G1 := hid g1
  clear g1 G H1
  have z1 := fun i => box_frz (tz_box G1.out) i
  have b0 := box_cellT (tz_box G1.out) 0 rfl
  have b1 := box_cellT (tz_box G1.out) 1 rfl
  have b2 := box_cellT (tz_box G1.out) 2 rfl
  have b3 := box_cellT (tz_box G1.out) 3 rfl
  have b4 := box_cellT (tz_box G1.out) 4 rfl
  have b5 := box_cellT (tz_box G1.out) 5 rfl
  go_wp2
  clear z1 b0 b1 b2 b3 b4 b5
  obtain ⟨HF, hk⟩ := ans_put (tz_box G1.out) (E) (0) (0) (0) ⟨#[]⟩ (0)
  have TZ := Things.boxes1 G1.out HF
  have k0 := hk 0 _ rfl
  have k1 := hk 1 _ rfl
  have k2 := hk 2 _ rfl
  have k3 := hk 3 _ rfl
  have k4 := hk 4 _ rfl
  have k5 := hk 5 _ rfl
  clear HF hk
  generalize (((((w1.setCell ⟨w.heap.size, 0, none⟩ (.int .i64 (E))).setCell ⟨w.heap.size, 1, none⟩ (.int .u64 (0))).setCell ⟨w.heap.size, 2, none⟩ (.int .i64 (0))).setCell ⟨w.heap.size, 3, none⟩ (.int .i64 (0))).setCell ⟨w.heap.size, 4, none⟩ (.string ⟨#[]⟩)).setCell ⟨w.heap.size, 5, none⟩ (.int .i64 (0)) = wz at *
  exact bodyPost_ret (v := ans (E) (0) (0) (0) ⟨#[]⟩ (0)) (by simp [results, Tryz.results41, go_sem, k0, k1, k2, k3, k4, k5]) rfl ⟨rfl, TZ⟩
set_option maxRecDepth 20000 in
theorem z_malloc (g : Things W w ts) (n : Int) : Calls Tryz.prog 16 #[.pointer none, .int .i64 n] w fun e w' => e = .returned (ans 11 0 0 0 ⟨#[]⟩ 0) ∧ Things W w' ts := by
  have G : Hid (Things W (w.alloc (.cells #[.int .i64 0, .int .u64 0, .int .i64 0, .int .i64 0, .string ⟨#[]⟩, .int .i64 0] 38)) (ts ++ [Blk w.heap.size (.cells #[.int .i64 0, .int .u64 0, .int .i64 0, .int .i64 0, .string ⟨#[]⟩, .int .i64 0] 38 (0, 0))])) := g.blk (.cells #[.int .i64 0, .int .u64 0, .int .i64 0, .int .i64 0, .string ⟨#[]⟩, .int .i64 0] 38 (0, 0))
  have H1 := hid fun (w : World) => z_take n w
  have H2 := hid fun (w : World) (ts : List (World → (Nat → Prop) → Prop)) (g : Things W w ts) => z_refuse g 11
  clear g
  go_enter Tryz.func16, Tryz.ntmps16
  go_wp2_with fail
  refine (H1.out _).mono ?_
  rintro e w0 ⟨rfl, rfl⟩
  go_wp2_with fail
  refine (H2.out _ _ G.out).mono ?_
  rintro e w1 ⟨rfl, g1⟩
  have G1 := hid g1
  clear g1 G H2 H1
  have z1 := fun i => box_frz (tz_box G1.out) i
  have b0 := box_cellT (tz_box G1.out) 0 rfl
  have b1 := box_cellT (tz_box G1.out) 1 rfl
  have b2 := box_cellT (tz_box G1.out) 2 rfl
  have b3 := box_cellT (tz_box G1.out) 3 rfl
  have b4 := box_cellT (tz_box G1.out) 4 rfl
  have b5 := box_cellT (tz_box G1.out) 5 rfl
  go_wp2
  clear z1 b0 b1 b2 b3 b4 b5
  obtain ⟨HF, hk⟩ := ans_put (tz_box G1.out) (11) (0) (0) (0) ⟨#[]⟩ (0)
  have TZ := Things.boxes1 G1.out HF
  have k0 := hk 0 _ rfl
  have k1 := hk 1 _ rfl
  have k2 := hk 2 _ rfl
  have k3 := hk 3 _ rfl
  have k4 := hk 4 _ rfl
  have k5 := hk 5 _ rfl
  clear HF hk
  generalize (((((w1.setCell ⟨w.heap.size, 0, none⟩ (.int .i64 (11))).setCell ⟨w.heap.size, 1, none⟩ (.int .u64 (0))).setCell ⟨w.heap.size, 2, none⟩ (.int .i64 (0))).setCell ⟨w.heap.size, 3, none⟩ (.int .i64 (0))).setCell ⟨w.heap.size, 4, none⟩ (.string ⟨#[]⟩)).setCell ⟨w.heap.size, 5, none⟩ (.int .i64 (0)) = wz at *
  exact bodyPost_ret (v := ans (11) (0) (0) (0) ⟨#[]⟩ (0)) (by simp [results, Tryz.results16, go_sem, k0, k1, k2, k3, k4, k5]) rfl ⟨rfl, TZ⟩
set_option maxRecDepth 20000 in
theorem z_calloc (g : Things W w ts) (k n : Int) : Calls Tryz.prog 30 #[.pointer none, .int .i64 k, .int .i64 n] w fun e w' => e = .returned (ans 11 0 0 0 ⟨#[]⟩ 0) ∧ Things W w' ts := by
  have G : Hid (Things W (w.alloc (.cells #[.int .i64 0, .int .u64 0, .int .i64 0, .int .i64 0, .string ⟨#[]⟩, .int .i64 0] 38)) (ts ++ [Blk w.heap.size (.cells #[.int .i64 0, .int .u64 0, .int .i64 0, .int .i64 0, .string ⟨#[]⟩, .int .i64 0] 38 (0, 0))])) := g.blk (.cells #[.int .i64 0, .int .u64 0, .int .i64 0, .int .i64 0, .string ⟨#[]⟩, .int .i64 0] 38 (0, 0))
  have H2 := hid fun (w : World) (ts : List (World → (Nat → Prop) → Prop)) (g : Things W w ts) => z_refuse g 11
  clear g
  go_enter Tryz.func30, Tryz.ntmps30
  go_wp2_with fail
  refine (H2.out _ _ G.out).mono ?_
  rintro e w1 ⟨rfl, g1⟩
  have G1 := hid g1
  clear g1 G H2
  have z1 := fun i => box_frz (tz_box G1.out) i
  have b0 := box_cellT (tz_box G1.out) 0 rfl
  have b1 := box_cellT (tz_box G1.out) 1 rfl
  have b2 := box_cellT (tz_box G1.out) 2 rfl
  have b3 := box_cellT (tz_box G1.out) 3 rfl
  have b4 := box_cellT (tz_box G1.out) 4 rfl
  have b5 := box_cellT (tz_box G1.out) 5 rfl
  go_wp2
  clear z1 b0 b1 b2 b3 b4 b5
  obtain ⟨HF, hk⟩ := ans_put (tz_box G1.out) (11) (0) (0) (0) ⟨#[]⟩ (0)
  have TZ := Things.boxes1 G1.out HF
  have k0 := hk 0 _ rfl
  have k1 := hk 1 _ rfl
  have k2 := hk 2 _ rfl
  have k3 := hk 3 _ rfl
  have k4 := hk 4 _ rfl
  have k5 := hk 5 _ rfl
  clear HF hk
  generalize (((((w1.setCell ⟨w.heap.size, 0, none⟩ (.int .i64 (11))).setCell ⟨w.heap.size, 1, none⟩ (.int .u64 (0))).setCell ⟨w.heap.size, 2, none⟩ (.int .i64 (0))).setCell ⟨w.heap.size, 3, none⟩ (.int .i64 (0))).setCell ⟨w.heap.size, 4, none⟩ (.string ⟨#[]⟩)).setCell ⟨w.heap.size, 5, none⟩ (.int .i64 (0)) = wz at *
  exact bodyPost_ret (v := ans (11) (0) (0) (0) ⟨#[]⟩ (0)) (by simp [results, Tryz.results30, go_sem, k0, k1, k2, k3, k4, k5]) rfl ⟨rfl, TZ⟩
set_option maxRecDepth 20000 in
theorem z_free (g : Things W w ts) (b : Int) : Calls Tryz.prog 21 #[.pointer none, .int .u64 b] w fun e w' => e = .returned (ans 11 0 0 0 ⟨#[]⟩ 0) ∧ Things W w' ts := by
  have G : Hid (Things W (w.alloc (.cells #[.int .i64 0, .int .u64 0, .int .i64 0, .int .i64 0, .string ⟨#[]⟩, .int .i64 0] 38)) (ts ++ [Blk w.heap.size (.cells #[.int .i64 0, .int .u64 0, .int .i64 0, .int .i64 0, .string ⟨#[]⟩, .int .i64 0] 38 (0, 0))])) := g.blk (.cells #[.int .i64 0, .int .u64 0, .int .i64 0, .int .i64 0, .string ⟨#[]⟩, .int .i64 0] 38 (0, 0))
  have H1 := hid fun (w : World) => z_find b 4 w
  have H2 := hid fun (w : World) (ts : List (World → (Nat → Prop) → Prop)) (g : Things W w ts) => z_refuse g 11
  clear g
  go_enter Tryz.func21, Tryz.ntmps21
  go_wp2_with fail
  refine (H1.out _).mono ?_
  rintro e w0 ⟨rfl, rfl⟩
  go_wp2_with fail
  refine (H2.out _ _ G.out).mono ?_
  rintro e w1 ⟨rfl, g1⟩
  have G1 := hid g1
  clear g1 G H2 H1
  have z1 := fun i => box_frz (tz_box G1.out) i
  have b0 := box_cellT (tz_box G1.out) 0 rfl
  have b1 := box_cellT (tz_box G1.out) 1 rfl
  have b2 := box_cellT (tz_box G1.out) 2 rfl
  have b3 := box_cellT (tz_box G1.out) 3 rfl
  have b4 := box_cellT (tz_box G1.out) 4 rfl
  have b5 := box_cellT (tz_box G1.out) 5 rfl
  go_wp2
  clear z1 b0 b1 b2 b3 b4 b5
  obtain ⟨HF, hk⟩ := ans_put (tz_box G1.out) (11) (0) (0) (0) ⟨#[]⟩ (0)
  have TZ := Things.boxes1 G1.out HF
  have k0 := hk 0 _ rfl
  have k1 := hk 1 _ rfl
  have k2 := hk 2 _ rfl
  have k3 := hk 3 _ rfl
  have k4 := hk 4 _ rfl
  have k5 := hk 5 _ rfl
  clear HF hk
  generalize (((((w1.setCell ⟨w.heap.size, 0, none⟩ (.int .i64 (11))).setCell ⟨w.heap.size, 1, none⟩ (.int .u64 (0))).setCell ⟨w.heap.size, 2, none⟩ (.int .i64 (0))).setCell ⟨w.heap.size, 3, none⟩ (.int .i64 (0))).setCell ⟨w.heap.size, 4, none⟩ (.string ⟨#[]⟩)).setCell ⟨w.heap.size, 5, none⟩ (.int .i64 (0)) = wz at *
  exact bodyPost_ret (v := ans (11) (0) (0) (0) ⟨#[]⟩ (0)) (by simp [results, Tryz.results21, go_sem, k0, k1, k2, k3, k4, k5]) rfl ⟨rfl, TZ⟩
set_option maxRecDepth 20000 in
theorem z_realloc (g : Things W w ts) (b n : Int) : Calls Tryz.prog 24 #[.pointer none, .int .u64 b, .int .i64 n] w fun e w' => e = .returned (ans 11 0 0 0 ⟨#[]⟩ 0) ∧ Things W w' ts := by
  have G : Hid (Things W (w.alloc (.cells #[.int .i64 0, .int .u64 0, .int .i64 0, .int .i64 0, .string ⟨#[]⟩, .int .i64 0] 38)) (ts ++ [Blk w.heap.size (.cells #[.int .i64 0, .int .u64 0, .int .i64 0, .int .i64 0, .string ⟨#[]⟩, .int .i64 0] 38 (0, 0))])) := g.blk (.cells #[.int .i64 0, .int .u64 0, .int .i64 0, .int .i64 0, .string ⟨#[]⟩, .int .i64 0] 38 (0, 0))
  have H1 := hid fun (w : World) => z_find b 4 w
  have H2 := hid fun (w : World) (ts : List (World → (Nat → Prop) → Prop)) (g : Things W w ts) => z_refuse g 11
  clear g
  go_enter Tryz.func24, Tryz.ntmps24
  go_wp2_with fail
  go_step3
  go_wp2_with fail
  refine (H1.out _).mono ?_
  rintro e w0 ⟨rfl, rfl⟩
  go_wp2_with fail
  refine (H2.out _ _ G.out).mono ?_
  rintro e w1 ⟨rfl, g1⟩
  have G1 := hid g1
  clear g1 G H2 H1
  have z1 := fun i => box_frz (tz_box G1.out) i
  have b0 := box_cellT (tz_box G1.out) 0 rfl
  have b1 := box_cellT (tz_box G1.out) 1 rfl
  have b2 := box_cellT (tz_box G1.out) 2 rfl
  have b3 := box_cellT (tz_box G1.out) 3 rfl
  have b4 := box_cellT (tz_box G1.out) 4 rfl
  have b5 := box_cellT (tz_box G1.out) 5 rfl
  go_wp2
  rw [Exit.noGoto_ret]
  clear z1 b0 b1 b2 b3 b4 b5
  obtain ⟨HF, hk⟩ := ans_put (tz_box G1.out) (11) (0) (0) (0) ⟨#[]⟩ (0)
  have TZ := Things.boxes1 G1.out HF
  have k0 := hk 0 _ rfl
  have k1 := hk 1 _ rfl
  have k2 := hk 2 _ rfl
  have k3 := hk 3 _ rfl
  have k4 := hk 4 _ rfl
  have k5 := hk 5 _ rfl
  clear HF hk
  generalize (((((w1.setCell ⟨w.heap.size, 0, none⟩ (.int .i64 (11))).setCell ⟨w.heap.size, 1, none⟩ (.int .u64 (0))).setCell ⟨w.heap.size, 2, none⟩ (.int .i64 (0))).setCell ⟨w.heap.size, 3, none⟩ (.int .i64 (0))).setCell ⟨w.heap.size, 4, none⟩ (.string ⟨#[]⟩)).setCell ⟨w.heap.size, 5, none⟩ (.int .i64 (0)) = wz at *
  exact bodyPost_ret (v := ans (11) (0) (0) (0) ⟨#[]⟩ (0)) (by simp [results, Tryz.results24, go_sem, k0, k1, k2, k3, k4, k5]) rfl ⟨rfl, TZ⟩
set_option maxRecDepth 20000 in
theorem z_usable (g : Things W w ts) (b : Int) : Calls Tryz.prog 18 #[.pointer none, .int .u64 b] w fun e w' => e = .returned (ans 11 0 0 0 ⟨#[]⟩ 0) ∧ Things W w' ts := by
  have G : Hid (Things W (w.alloc (.cells #[.int .i64 0, .int .u64 0, .int .i64 0, .int .i64 0, .string ⟨#[]⟩, .int .i64 0] 38)) (ts ++ [Blk w.heap.size (.cells #[.int .i64 0, .int .u64 0, .int .i64 0, .int .i64 0, .string ⟨#[]⟩, .int .i64 0] 38 (0, 0))])) := g.blk (.cells #[.int .i64 0, .int .u64 0, .int .i64 0, .int .i64 0, .string ⟨#[]⟩, .int .i64 0] 38 (0, 0))
  have H1 := hid fun (w : World) => z_find b 0 w
  have H2 := hid fun (w : World) (ts : List (World → (Nat → Prop) → Prop)) (g : Things W w ts) => z_refuse g 11
  clear g
  go_enter Tryz.func18, Tryz.ntmps18
  go_wp2_with fail
  refine (H1.out _).mono ?_
  rintro e w0 ⟨rfl, rfl⟩
  go_wp2_with fail
  refine (H2.out _ _ G.out).mono ?_
  rintro e w1 ⟨rfl, g1⟩
  have G1 := hid g1
  clear g1 G H2 H1
  have z1 := fun i => box_frz (tz_box G1.out) i
  have b0 := box_cellT (tz_box G1.out) 0 rfl
  have b1 := box_cellT (tz_box G1.out) 1 rfl
  have b2 := box_cellT (tz_box G1.out) 2 rfl
  have b3 := box_cellT (tz_box G1.out) 3 rfl
  have b4 := box_cellT (tz_box G1.out) 4 rfl
  have b5 := box_cellT (tz_box G1.out) 5 rfl
  go_wp2
  clear z1 b0 b1 b2 b3 b4 b5
  obtain ⟨HF, hk⟩ := ans_put (tz_box G1.out) (11) (0) (0) (0) ⟨#[]⟩ (0)
  have TZ := Things.boxes1 G1.out HF
  have k0 := hk 0 _ rfl
  have k1 := hk 1 _ rfl
  have k2 := hk 2 _ rfl
  have k3 := hk 3 _ rfl
  have k4 := hk 4 _ rfl
  have k5 := hk 5 _ rfl
  clear HF hk
  generalize (((((w1.setCell ⟨w.heap.size, 0, none⟩ (.int .i64 (11))).setCell ⟨w.heap.size, 1, none⟩ (.int .u64 (0))).setCell ⟨w.heap.size, 2, none⟩ (.int .i64 (0))).setCell ⟨w.heap.size, 3, none⟩ (.int .i64 (0))).setCell ⟨w.heap.size, 4, none⟩ (.string ⟨#[]⟩)).setCell ⟨w.heap.size, 5, none⟩ (.int .i64 (0)) = wz at *
  exact bodyPost_ret (v := ans (11) (0) (0) (0) ⟨#[]⟩ (0)) (by simp [results, Tryz.results18, go_sem, k0, k1, k2, k3, k4, k5]) rfl ⟨rfl, TZ⟩
set_option maxRecDepth 20000 in
theorem z_read (g : Things W w ts) (b f n : Int) : Calls Tryz.prog 20 #[.pointer none, .int .u64 b, .int .i64 f, .int .i64 n] w fun e w' => e = .returned (ans 11 0 0 0 ⟨#[]⟩ 0) ∧ Things W w' ts := by
  have G : Hid (Things W (w.alloc (.cells #[.int .i64 0, .int .u64 0, .int .i64 0, .int .i64 0, .string ⟨#[]⟩, .int .i64 0] 38)) (ts ++ [Blk w.heap.size (.cells #[.int .i64 0, .int .u64 0, .int .i64 0, .int .i64 0, .string ⟨#[]⟩, .int .i64 0] 38 (0, 0))])) := g.blk (.cells #[.int .i64 0, .int .u64 0, .int .i64 0, .int .i64 0, .string ⟨#[]⟩, .int .i64 0] 38 (0, 0))
  have H1 := hid fun (w : World) => z_reach b 1 f n w
  have H2 := hid fun (w : World) (ts : List (World → (Nat → Prop) → Prop)) (g : Things W w ts) => z_refuse g 11
  clear g
  go_enter Tryz.func20, Tryz.ntmps20
  go_wp2_with fail
  refine (H1.out _).mono ?_
  rintro e w0 ⟨rfl, rfl⟩
  go_wp2_with fail
  refine (H2.out _ _ G.out).mono ?_
  rintro e w1 ⟨rfl, g1⟩
  have G1 := hid g1
  clear g1 G H2 H1
  have z1 := fun i => box_frz (tz_box G1.out) i
  have b0 := box_cellT (tz_box G1.out) 0 rfl
  have b1 := box_cellT (tz_box G1.out) 1 rfl
  have b2 := box_cellT (tz_box G1.out) 2 rfl
  have b3 := box_cellT (tz_box G1.out) 3 rfl
  have b4 := box_cellT (tz_box G1.out) 4 rfl
  have b5 := box_cellT (tz_box G1.out) 5 rfl
  go_wp2
  clear z1 b0 b1 b2 b3 b4 b5
  obtain ⟨HF, hk⟩ := ans_put (tz_box G1.out) (11) (0) (0) (0) ⟨#[]⟩ (0)
  have TZ := Things.boxes1 G1.out HF
  have k0 := hk 0 _ rfl
  have k1 := hk 1 _ rfl
  have k2 := hk 2 _ rfl
  have k3 := hk 3 _ rfl
  have k4 := hk 4 _ rfl
  have k5 := hk 5 _ rfl
  clear HF hk
  generalize (((((w1.setCell ⟨w.heap.size, 0, none⟩ (.int .i64 (11))).setCell ⟨w.heap.size, 1, none⟩ (.int .u64 (0))).setCell ⟨w.heap.size, 2, none⟩ (.int .i64 (0))).setCell ⟨w.heap.size, 3, none⟩ (.int .i64 (0))).setCell ⟨w.heap.size, 4, none⟩ (.string ⟨#[]⟩)).setCell ⟨w.heap.size, 5, none⟩ (.int .i64 (0)) = wz at *
  exact bodyPost_ret (v := ans (11) (0) (0) (0) ⟨#[]⟩ (0)) (by simp [results, Tryz.results20, go_sem, k0, k1, k2, k3, k4, k5]) rfl ⟨rfl, TZ⟩
set_option maxRecDepth 20000 in
theorem z_write (g : Things W w ts) (b f : Int) (s : ByteArray) : Calls Tryz.prog 19 #[.pointer none, .int .u64 b, .int .i64 f, .string s] w fun e w' => e = .returned (ans 11 0 0 0 ⟨#[]⟩ 0) ∧ Things W w' ts := by
  have G : Hid (Things W (w.alloc (.cells #[.int .i64 0, .int .u64 0, .int .i64 0, .int .i64 0, .string ⟨#[]⟩, .int .i64 0] 38)) (ts ++ [Blk w.heap.size (.cells #[.int .i64 0, .int .u64 0, .int .i64 0, .int .i64 0, .string ⟨#[]⟩, .int .i64 0] 38 (0, 0))])) := g.blk (.cells #[.int .i64 0, .int .u64 0, .int .i64 0, .int .i64 0, .string ⟨#[]⟩, .int .i64 0] 38 (0, 0))
  have H1 := hid fun (w : World) => z_reach b 2 f (s.size : Int) w
  have H2 := hid fun (w : World) (ts : List (World → (Nat → Prop) → Prop)) (g : Things W w ts) => z_refuse g 11
  clear g
  go_enter Tryz.func19, Tryz.ntmps19
  go_wp2_with fail
  refine (H1.out _).mono ?_
  rintro e w0 ⟨rfl, rfl⟩
  go_wp2_with fail
  refine (H2.out _ _ G.out).mono ?_
  rintro e w1 ⟨rfl, g1⟩
  have G1 := hid g1
  clear g1 G H2 H1
  have z1 := fun i => box_frz (tz_box G1.out) i
  have b0 := box_cellT (tz_box G1.out) 0 rfl
  have b1 := box_cellT (tz_box G1.out) 1 rfl
  have b2 := box_cellT (tz_box G1.out) 2 rfl
  have b3 := box_cellT (tz_box G1.out) 3 rfl
  have b4 := box_cellT (tz_box G1.out) 4 rfl
  have b5 := box_cellT (tz_box G1.out) 5 rfl
  go_wp2
  clear z1 b0 b1 b2 b3 b4 b5
  obtain ⟨HF, hk⟩ := ans_put (tz_box G1.out) (11) (0) (0) (0) ⟨#[]⟩ (0)
  have TZ := Things.boxes1 G1.out HF
  have k0 := hk 0 _ rfl
  have k1 := hk 1 _ rfl
  have k2 := hk 2 _ rfl
  have k3 := hk 3 _ rfl
  have k4 := hk 4 _ rfl
  have k5 := hk 5 _ rfl
  clear HF hk
  generalize (((((w1.setCell ⟨w.heap.size, 0, none⟩ (.int .i64 (11))).setCell ⟨w.heap.size, 1, none⟩ (.int .u64 (0))).setCell ⟨w.heap.size, 2, none⟩ (.int .i64 (0))).setCell ⟨w.heap.size, 3, none⟩ (.int .i64 (0))).setCell ⟨w.heap.size, 4, none⟩ (.string ⟨#[]⟩)).setCell ⟨w.heap.size, 5, none⟩ (.int .i64 (0)) = wz at *
  exact bodyPost_ret (v := ans (11) (0) (0) (0) ⟨#[]⟩ (0)) (by simp [results, Tryz.results19, go_sem, k0, k1, k2, k3, k4, k5]) rfl ⟨rfl, TZ⟩
set_option maxRecDepth 20000 in
theorem z_restrict (g : Things W w ts) (b r : Int) : Calls Tryz.prog 17 #[.pointer none, .int .u64 b, .int .i64 r] w fun e w' => e = .returned (ans 11 0 0 0 ⟨#[]⟩ 0) ∧ Things W w' ts := by
  have G : Hid (Things W (w.alloc (.cells #[.int .i64 0, .int .u64 0, .int .i64 0, .int .i64 0, .string ⟨#[]⟩, .int .i64 0] 38)) (ts ++ [Blk w.heap.size (.cells #[.int .i64 0, .int .u64 0, .int .i64 0, .int .i64 0, .string ⟨#[]⟩, .int .i64 0] 38 (0, 0))])) := g.blk (.cells #[.int .i64 0, .int .u64 0, .int .i64 0, .int .i64 0, .string ⟨#[]⟩, .int .i64 0] 38 (0, 0))
  have H2 := hid fun (w : World) (ts : List (World → (Nat → Prop) → Prop)) (g : Things W w ts) => z_refuse g 11
  clear g
  go_enter Tryz.func17, Tryz.ntmps17
  go_wp2_with fail
  refine (H2.out _ _ G.out).mono ?_
  rintro e w1 ⟨rfl, g1⟩
  have G1 := hid g1
  clear g1 G H2
  have z1 := fun i => box_frz (tz_box G1.out) i
  have b0 := box_cellT (tz_box G1.out) 0 rfl
  have b1 := box_cellT (tz_box G1.out) 1 rfl
  have b2 := box_cellT (tz_box G1.out) 2 rfl
  have b3 := box_cellT (tz_box G1.out) 3 rfl
  have b4 := box_cellT (tz_box G1.out) 4 rfl
  have b5 := box_cellT (tz_box G1.out) 5 rfl
  go_wp2
  clear z1 b0 b1 b2 b3 b4 b5
  obtain ⟨HF, hk⟩ := ans_put (tz_box G1.out) (11) (0) (0) (0) ⟨#[]⟩ (0)
  have TZ := Things.boxes1 G1.out HF
  have k0 := hk 0 _ rfl
  have k1 := hk 1 _ rfl
  have k2 := hk 2 _ rfl
  have k3 := hk 3 _ rfl
  have k4 := hk 4 _ rfl
  have k5 := hk 5 _ rfl
  clear HF hk
  generalize (((((w1.setCell ⟨w.heap.size, 0, none⟩ (.int .i64 (11))).setCell ⟨w.heap.size, 1, none⟩ (.int .u64 (0))).setCell ⟨w.heap.size, 2, none⟩ (.int .i64 (0))).setCell ⟨w.heap.size, 3, none⟩ (.int .i64 (0))).setCell ⟨w.heap.size, 4, none⟩ (.string ⟨#[]⟩)).setCell ⟨w.heap.size, 5, none⟩ (.int .i64 (0)) = wz at *
  exact bodyPost_ret (v := ans (11) (0) (0) (0) ⟨#[]⟩ (0)) (by simp [results, Tryz.results17, go_sem, k0, k1, k2, k3, k4, k5]) rfl ⟨rfl, TZ⟩
end
end Go.Proofs.YtioplfbkfokkfaaGreatDoor
