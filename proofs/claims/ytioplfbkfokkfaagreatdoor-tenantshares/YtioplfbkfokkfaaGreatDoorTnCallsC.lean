/-
  What the small calls of package tenant do: bytes, charge, Charged, say, refuse, find.
  What the calls of package tenant do: refuse, find, block, take, own, giveBack, release.
  What the calls of package tenant do: take, own, giveBack, release.
-/
import Derived.Test.YtioplfbkfokkfaaGreatDoorTnThing
import Derived.Deep.RegionHeld3
namespace Go.Proofs.YtioplfbkfokkfaaGreatDoor
open Go.RowKit
open An

theorem box_cellT {w : World} {B : Nat} {cs : Array Value} {T : TypeId} (h : w.heap[B]? = some (.cells cs T (0, 0))) (i : Nat) {v : Value} (hv : cs[i]? = some v) : w.cell? ⟨B, i, none⟩ = some v := by unfold World.cell?; rw [h]; exact hv
theorem Things.boxes2 {W w w' : World} {ts : List (World → (Nat → Prop) → Prop)} {A B : Nat} {oa ob : Obj} (h : Things W w (ts ++ [Blk A oa] ++ [Blk B ob])) (f : Fr (fun i => i = A ∨ i = B) w w') : Things W w' ts := by
  obtain ⟨o, h1, h2, h3, h4⟩ := h
  have hA : o A = ts.length + 1 := (h4 ts.length (Blk A oa) (by simp)).2.1
  have hB : o B = ts.length + 1 + 1 := (h4 (ts.length + 1) (Blk B ob) (by simp)).2.1
  have hs := f.size
  refine ⟨fun i => if o i ≤ ts.length then o i else 0, ⟨h1.nw.on f fun i hi => ?_, fun i hi => ?_⟩, fun i => ?_, fun Q hQ => h3 Q (by simp [hQ]), fun j Q hj => ?_⟩
  · exact (h1.dom i (by rcases hi with rfl | rfl <;> omega)).1
  · by_cases e : o i ≤ ts.length
    · simp only [if_pos e] at hi
      have := h1.dom i hi
      omega
    · simp [e] at hi
  · show (if o i ≤ ts.length then o i else 0) ≤ ts.length
    split <;> omega
  · have hjl := (List.getElem?_eq_some_iff.1 hj).1
    have hG := h3 Q (by simp [List.mem_of_getElem? hj])
    have hp := h4 j Q (by rw [List.append_assoc, List.getElem?_append_left hjl]; exact hj)
    have hp2 := hG.carry hp f fun i hi e => by
      unfold lab at hi
      rcases e with rfl | rfl <;> omega
    refine hG.mono hp2 (fun i hi => ?_) fun i hi => ?_
    · show (if o i ≤ ts.length then o i else 0) = j + 1
      have hi : o i = j + 1 := hi
      rw [if_pos (by omega)]; exact hi
    · have hi : (if o i ≤ ts.length then o i else 0) = j + 1 := hi
      have h0 : o i ≠ 0 := fun e => by rw [e] at hi; simp at hi
      have := h1.dom i h0
      omega
structure Tp where
  T : Nat
  a : Nat
  m : Nat
  h : Nat
  t : Nat
  k : Nat
  c : Nat
  q : Nat
  B : Nat
  id : Int
  pk : Int
structure TnS where
  M : Ms
  H : Hp
  c : Ka.Ct
  s : Qt.QS
  f : Int → Option (Int × Int)
  n : Nat
def tob (x : Tp) : Obj := .cells #[.int .i64 x.id, .pointer (some ⟨x.a, 0, none⟩), .pointer (some ⟨x.m, 0, none⟩), .pointer (some ⟨x.h, 0, none⟩), .pointer (some ⟨x.c, 0, none⟩), .pointer (some ⟨x.q, 0, none⟩), .int .i64 x.pk, .map (some x.B)] 70 (0, 0)
abbrev tnl (x : Tp) (S : TnS) (ts : List (World → (Nat → Prop) → Prop)) : List (World → (Nat → Prop) → Prop) :=
  Hs x.a x.m x.h x.t x.k S.M S.H :: Kc x.c S.c :: Qq x.q S.s :: Ot x.B S.f S.n :: Blk x.T (tob x) :: ts
abbrev ans (E hd ad n : Int) (d : ByteArray) (cg : Int) : Value := .agg #[.int .i64 E, .int .u64 hd, .int .i64 ad, .int .i64 n, .string d, .int .i64 cg]
section
variable {W w : World} {x : Tp} {S : TnS} {ts : List (World → (Nat → Prop) → Prop)}
theorem tn_cell (g : Things W w (tnl x S ts)) (i : Nat) {v : Value} (hv : (#[.int .i64 x.id, .pointer (some ⟨x.a, 0, none⟩), .pointer (some ⟨x.m, 0, none⟩), .pointer (some ⟨x.h, 0, none⟩), .pointer (some ⟨x.c, 0, none⟩), .pointer (some ⟨x.q, 0, none⟩), .int .i64 x.pk, .map (some x.B)] : Array Value)[i]? = some v) : w.cell? ⟨x.T, i, none⟩ = some v := box_cellT (g.cells 4 rfl) i hv
theorem tn_box1 {A B : Nat} {oa ob : Obj} (g : Things W w (tnl x S (ts ++ [Blk A oa] ++ [Blk B ob]))) : w.heap[A]? = some oa := by
  obtain ⟨U, h, _⟩ := g.get (ts.length + 5) (P := Blk A oa) (by simp [tnl])
  exact h.1
theorem tn_box2 {A B : Nat} {oa ob : Obj} (g : Things W w (tnl x S (ts ++ [Blk A oa] ++ [Blk B ob]))) : w.heap[B]? = some ob := by
  obtain ⟨U, h, _⟩ := g.get (ts.length + 6) (P := Blk B ob) (by simp [tnl])
  exact h.1
theorem box_frz {w : World} {B : Nat} {cs : Array Value} {T : TypeId} (h : w.heap[B]? = some (.cells cs T (0, 0))) (i : Nat) : w.frozen? ⟨B, i, none⟩ = false := by simp [World.frozen?, h]
set_option maxRecDepth 20000 in
theorem n_bytes (n : Int) (w : World) : Calls Tryz.prog 63 #[.int .i64 n] w fun e w' => e = .returned (.complex .f64 (fb (okA n 0)) (fb (okB n 0))) ∧ Fr (fun _ => False) w w' := by
  have H1 := hid (t_of n 0 w)
  generalize okA n 0 = x at *
  generalize okB n 0 = y at *
  generalize fb x = xb at *
  generalize fb y = yb at *
  go_enter Tryz.func63, Tryz.ntmps63
  go_wp2_with fail
  refine H1.out.mono ?_
  rintro e w1 ⟨rfl, rfl⟩
  go_wp2
  go_ret
  exact ⟨by simp, Fr.refl _ _⟩
theorem charge_rt (n : Int) : Rt (chargeI n) 0 := by
  by_cases h : n < 1 ∨ 8192 < n
  · rw [chargeI_none n h]; exact ⟨by omega, by omega, by omega, by omega⟩
  · rw [chargeI_some n (by omega) (by omega)]
    have := ofI_range n (by omega) (by omega)
    have := unitI_range (ofI n) this.1 this.2
    exact ⟨by omega, by omega, by omega, by omega⟩
set_option maxRecDepth 20000 in
theorem n_charge (n : Int) {w0 : World} (k : K w0 w) : Calls Tryz.prog 58 #[.int .i64 n] w fun e w' => e = .returned (.complex .f64 (fb (chargeI n)) (fb 0)) ∧ Fr (fun _ => False) w w' := by
  have H1 := hid (k_charge n (K.start k.tab))
  have H2 : Hid (∀ w, Calls Tryz.prog 63 #[.int .i64 (chargeI n)] w fun e w' => e = .returned (.complex .f64 (fb (chargeI n)) (fb 0)) ∧ Fr (fun _ => False) w w') := fun w => by
    have h := n_bytes (chargeI n) w
    rwa [show okA (chargeI n) 0 = chargeI n from if_pos (charge_rt n), show okB (chargeI n) 0 = 0 from if_pos (charge_rt n)] at h
  generalize fb (chargeI n) = xb at *
  generalize chargeI n = cg at *
  generalize fb 0 = zb at *
  clear k
  go_enter Tryz.func58, Tryz.ntmps58
  go_wp2_with fail
  refine H1.out.mono ?_
  rintro e w1 ⟨rfl, h1⟩
  have F1 := hid h1.fr
  clear h1 H1
  go_wp2_with fail
  refine (H2.out _).mono ?_
  rintro e w2 ⟨rfl, f2⟩
  have F2 := hid (F1.out.trans f2)
  clear f2 F1 H2
  go_wp2
  go_ret
  exact ⟨by simp, F2.out⟩
set_option maxRecDepth 20000 in
theorem n_charged (g : Things W w (tnl x S ts)) : Calls Tryz.prog 12 #[.pointer (some ⟨x.T, 0, none⟩)] w fun e w' => e = .returned (.int .i64 S.s.cb) ∧ Things W w' (tnl x S ts) := by
  have G := hid g
  have c5 := tn_cell g 5 rfl
  have H1 := hid fun (w : World) (g : Things W w (tnl x S ts)) => kq_cha g 2 rfl
  have H2 := hid fun (w : World) => s_bytes (qq_ok g 2 rfl).char w
  generalize S.s.cb = cb at H1 H2 ⊢
  generalize S.s.cp = cp at H1 H2
  generalize fb cb = xb at *
  generalize fb cp = yb at *
  clear g
  go_enter Tryz.func12, Tryz.ntmps12
  go_wp2_with fail
  refine (H1.out _ G.out).mono ?_
  rintro e w1 ⟨rfl, g1⟩
  have G1 := hid g1
  clear g1 G c5
  go_wp2_with fail
  refine (H2.out _).mono ?_
  rintro e w2 ⟨rfl, m2, rfl⟩
  have G2 := hid (G1.out.kept ((Fr.refl _ _).drewN m2))
  clear G1
  go_wp2
  go_ret
  exact ⟨by simp, G2.out⟩
set_option maxRecDepth 20000 in
theorem n_say (g : Things W w (tnl x S ts)) (E hd ad n : Int) (d : ByteArray) (cg : Int) : Calls Tryz.prog 44 #[.pointer (some ⟨x.T, 0, none⟩), ans E hd ad n d cg] w fun e w' => e = .returned (ans E hd ad n d S.s.cb) ∧ Things W w' (tnl x S ts) := by
  have G : Hid (Things W ((w.alloc (.cells #[.int .i64 E, .int .u64 hd, .int .i64 ad, .int .i64 n, .string d, .int .i64 cg] 38)).alloc (.cells #[.int .i64 0, .int .u64 0, .int .i64 0, .int .i64 0, .string ⟨#[]⟩, .int .i64 0] 38)) (tnl x S (ts ++ [Blk w.heap.size (.cells #[.int .i64 E, .int .u64 hd, .int .i64 ad, .int .i64 n, .string d, .int .i64 cg] 38 (0, 0))] ++ [Blk (w.heap.size + 1) (.cells #[.int .i64 0, .int .u64 0, .int .i64 0, .int .i64 0, .string ⟨#[]⟩, .int .i64 0] 38 (0, 0))]))) := by
    have h := (g.blk (.cells #[.int .i64 E, .int .u64 hd, .int .i64 ad, .int .i64 n, .string d, .int .i64 cg] 38 (0, 0))).blk (.cells #[.int .i64 0, .int .u64 0, .int .i64 0, .int .i64 0, .string ⟨#[]⟩, .int .i64 0] 38 (0, 0))
    rw [World.size_alloc] at h
    exact h
  have H1 := hid fun (w : World) ts (g : Things W w (tnl x S ts)) => n_charged g
  clear g
  generalize S.s.cb = cb at *
  go_enter Tryz.func44, Tryz.ntmps44
  go_wp2_with fail
  refine (H1.out _ _ G.out).mono ?_
  rintro e w1 ⟨rfl, g1⟩
  have G1 := hid g1
  have z0 := fun i => box_frz (tn_box1 g1) i
  have z1 := fun i => box_frz (tn_box2 g1) i
  have c0 := box_cellT (tn_box1 g1) 0 rfl
  have c1 := box_cellT (tn_box1 g1) 1 rfl
  have c2 := box_cellT (tn_box1 g1) 2 rfl
  have c3 := box_cellT (tn_box1 g1) 3 rfl
  have c4 := box_cellT (tn_box1 g1) 4 rfl
  have c5 := box_cellT (tn_box1 g1) 5 rfl
  have b0 := box_cellT (tn_box2 g1) 0 rfl
  have b1 := box_cellT (tn_box2 g1) 1 rfl
  have b2 := box_cellT (tn_box2 g1) 2 rfl
  have b3 := box_cellT (tn_box2 g1) 3 rfl
  have b4 := box_cellT (tn_box2 g1) 4 rfl
  have b5 := box_cellT (tn_box2 g1) 5 rfl
  clear g1 G H1
  go_wp2
  have hb := tn_box2 G1.out
  have HF : Fr (fun i => i = w.heap.size ∨ i = w.heap.size + 1) w1 (((((((w1.setCell ⟨w.heap.size, 5, none⟩ (.int .i64 cb)).setCell ⟨w.heap.size + 1, 0, none⟩ (.int .i64 E)).setCell ⟨w.heap.size + 1, 1, none⟩ (.int .u64 hd)).setCell ⟨w.heap.size + 1, 2, none⟩ (.int .i64 ad)).setCell ⟨w.heap.size + 1, 3, none⟩ (.int .i64 n)).setCell ⟨w.heap.size + 1, 4, none⟩ (.string d)).setCell ⟨w.heap.size + 1, 5, none⟩ (.int .i64 cb)) :=
    ((((((Fr.setCell (p := ⟨w.heap.size, 5, none⟩) (Fr.refl _ _) (.inl rfl) _).setCell (p := ⟨w.heap.size + 1, 0, none⟩) (.inr rfl) _).setCell (p := ⟨w.heap.size + 1, 1, none⟩) (.inr rfl) _).setCell (p := ⟨w.heap.size + 1, 2, none⟩) (.inr rfl) _).setCell (p := ⟨w.heap.size + 1, 3, none⟩) (.inr rfl) _).setCell (p := ⟨w.heap.size + 1, 4, none⟩) (.inr rfl) _).setCell (p := ⟨w.heap.size + 1, 5, none⟩) (.inr rfl) _
  have hz : (((((((w1.setCell ⟨w.heap.size, 5, none⟩ (.int .i64 cb)).setCell ⟨w.heap.size + 1, 0, none⟩ (.int .i64 E)).setCell ⟨w.heap.size + 1, 1, none⟩ (.int .u64 hd)).setCell ⟨w.heap.size + 1, 2, none⟩ (.int .i64 ad)).setCell ⟨w.heap.size + 1, 3, none⟩ (.int .i64 n)).setCell ⟨w.heap.size + 1, 4, none⟩ (.string d)).setCell ⟨w.heap.size + 1, 5, none⟩ (.int .i64 cb)).heap[w.heap.size + 1]? = some (.cells #[.int .i64 E, .int .u64 hd, .int .i64 ad, .int .i64 n, .string d, .int .i64 cb] 38 (0, 0)) := by
    simp [World.setCell, Array.getElem?_modify, hb]
  have T := Things.boxes2 (ts := tnl x S ts) G1.out HF
  have k0 := box_cellT hz 0 rfl
  have k1 := box_cellT hz 1 rfl
  have k2 := box_cellT hz 2 rfl
  have k3 := box_cellT hz 3 rfl
  have k4 := box_cellT hz 4 rfl
  have k5 := box_cellT hz 5 rfl
  clear hz HF hb G1 z0 z1 c0 c1 c2 c3 c4 c5 b0 b1 b2 b3 b4 b5
  generalize (((((((w1.setCell ⟨w.heap.size, 5, none⟩ (.int .i64 cb)).setCell ⟨w.heap.size + 1, 0, none⟩ (.int .i64 E)).setCell ⟨w.heap.size + 1, 1, none⟩ (.int .u64 hd)).setCell ⟨w.heap.size + 1, 2, none⟩ (.int .i64 ad)).setCell ⟨w.heap.size + 1, 3, none⟩ (.int .i64 n)).setCell ⟨w.heap.size + 1, 4, none⟩ (.string d)).setCell ⟨w.heap.size + 1, 5, none⟩ (.int .i64 cb)) = w2 at *
  exact bodyPost_ret (v := ans E hd ad n d cb) (by simp [results, Tryz.results44, go_sem, k0, k1, k2, k3, k4, k5]) rfl ⟨rfl, T⟩
end
end Go.Proofs.YtioplfbkfokkfaaGreatDoor

namespace Go.Proofs.YtioplfbkfokkfaaGreatDoor
open Go.RowKit
open An

def Anyt1 (w : World) (Z : Nat → Prop) : Prop := ∀ i, Z i → i < w.heap.size
theorem Anyt1.good : Good Anyt1 := ⟨fun h f _ i hi => Nat.lt_of_lt_of_le (h i hi) f.size, fun _ _ k2 => k2⟩
theorem Things.boxes1 {W w w' : World} {ts : List (World → (Nat → Prop) → Prop)} {B : Nat} {ob : Obj} (h : Things W w (ts ++ [Blk B ob])) (f : Fr (fun i => i = B) w w') : Things W w' ts := by
  obtain ⟨U, h1, _, h2⟩ := h.turn ts.length (P := Blk B ob) (by simp)
  have hs := f.size
  have h3 := h2 Anyt1 w' U Anyt1.good (fun i hi => Nat.lt_of_lt_of_le (h1.2.2 i hi) hs) (Gw.same h1.2.2 (f.mono fun i _ e => e ▸ h1.2.1))
  rw [List.set_append_right _ _ (Nat.le_refl _), Nat.sub_self] at h3
  exact Things.less h3
theorem ans_put {w1 : World} {B : Nat} (hb : w1.heap[B]? = some (.cells #[.int .i64 0, .int .u64 0, .int .i64 0, .int .i64 0, .string ⟨#[]⟩, .int .i64 0] 38 (0, 0))) (E hd ad n : Int) (d : ByteArray) (cg : Int) : Fr (fun i => i = B) w1 ((((((w1.setCell ⟨B, 0, none⟩ (.int .i64 E)).setCell ⟨B, 1, none⟩ (.int .u64 hd)).setCell ⟨B, 2, none⟩ (.int .i64 ad)).setCell ⟨B, 3, none⟩ (.int .i64 n)).setCell ⟨B, 4, none⟩ (.string d)).setCell ⟨B, 5, none⟩ (.int .i64 cg)) ∧ ∀ (i : Nat) (v : Value), (#[.int .i64 E, .int .u64 hd, .int .i64 ad, .int .i64 n, .string d, .int .i64 cg] : Array Value)[i]? = some v → ((((((w1.setCell ⟨B, 0, none⟩ (.int .i64 E)).setCell ⟨B, 1, none⟩ (.int .u64 hd)).setCell ⟨B, 2, none⟩ (.int .i64 ad)).setCell ⟨B, 3, none⟩ (.int .i64 n)).setCell ⟨B, 4, none⟩ (.string d)).setCell ⟨B, 5, none⟩ (.int .i64 cg)).cell? ⟨B, i, none⟩ = some v := by
  refine ⟨(((((Fr.setCell (S := fun i => i = B) (p := ⟨B, 0, none⟩) (Fr.refl _ _) rfl _).setCell (p := ⟨B, 1, none⟩) rfl _).setCell (p := ⟨B, 2, none⟩) rfl _).setCell (p := ⟨B, 3, none⟩) rfl _).setCell (p := ⟨B, 4, none⟩) rfl _).setCell (p := ⟨B, 5, none⟩) rfl _, fun i v hv => ?_⟩
  refine box_cellT (cs := #[.int .i64 E, .int .u64 hd, .int .i64 ad, .int .i64 n, .string d, .int .i64 cg]) (T := 38) ?_ i hv
  simp [World.setCell, Array.getElem?_modify, hb]
section
variable {W w : World} {x : Tp} {S : TnS} {ts : List (World → (Nat → Prop) → Prop)}
theorem tn_box {B : Nat} {ob : Obj} (g : Things W w (tnl x S (ts ++ [Blk B ob]))) : w.heap[B]? = some ob := by
  obtain ⟨U, h, _⟩ := g.get (ts.length + 5) (P := Blk B ob) (by simp [tnl])
  exact h.1
set_option maxRecDepth 20000 in
theorem n_refuse (g : Things W w (tnl x S ts)) (E : Int) : Calls Tryz.prog 41 #[.pointer (some ⟨x.T, 0, none⟩), .int .i64 E] w fun e w' => e = .returned (ans E 0 0 0 ⟨#[]⟩ S.s.cb) ∧ Things W w' (tnl x S ts) := by
  have G : Hid (Things W (w.alloc (.cells #[.int .i64 0, .int .u64 0, .int .i64 0, .int .i64 0, .string ⟨#[]⟩, .int .i64 0] 38)) (tnl x S (ts ++ [Blk w.heap.size (.cells #[.int .i64 0, .int .u64 0, .int .i64 0, .int .i64 0, .string ⟨#[]⟩, .int .i64 0] 38 (0, 0))]))) := g.blk (.cells #[.int .i64 0, .int .u64 0, .int .i64 0, .int .i64 0, .string ⟨#[]⟩, .int .i64 0] 38 (0, 0))
  have H1 := hid fun (w : World) (ts : List (World → (Nat → Prop) → Prop)) (g : Things W w (tnl x S ts)) => n_say g E 0 0 0 ⟨#[]⟩ 0
  clear g
  generalize S.s.cb = cb at *
  go_enter Tryz.func41, Tryz.ntmps41
  go_wp2_with fail
  refine (H1.out _ _ G.out).mono ?_
  rintro e w1 ⟨rfl, g1⟩
  have G1 := hid g1
  have z1 := fun i => box_frz (tn_box G1.out) i
  have b0 := box_cellT (tn_box G1.out) 0 rfl
  have b1 := box_cellT (tn_box G1.out) 1 rfl
  have b2 := box_cellT (tn_box G1.out) 2 rfl
  have b3 := box_cellT (tn_box G1.out) 3 rfl
  have b4 := box_cellT (tn_box G1.out) 4 rfl
  have b5 := box_cellT (tn_box G1.out) 5 rfl
  clear g1 G H1
  go_wp2
  clear z1 b0 b1 b2 b3 b4 b5
  obtain ⟨HF, hk⟩ := ans_put (tn_box G1.out) (E) (0) (0) (0) ⟨#[]⟩ (cb)
  have TZ := Things.boxes1 (ts := tnl x S ts) G1.out HF
  have k0 := hk 0 _ rfl
  have k1 := hk 1 _ rfl
  have k2 := hk 2 _ rfl
  have k3 := hk 3 _ rfl
  have k4 := hk 4 _ rfl
  have k5 := hk 5 _ rfl
  clear HF hk
  generalize (((((w1.setCell ⟨w.heap.size, 0, none⟩ (.int .i64 (E))).setCell ⟨w.heap.size, 1, none⟩ (.int .u64 (0))).setCell ⟨w.heap.size, 2, none⟩ (.int .i64 (0))).setCell ⟨w.heap.size, 3, none⟩ (.int .i64 (0))).setCell ⟨w.heap.size, 4, none⟩ (.string ⟨#[]⟩)).setCell ⟨w.heap.size, 5, none⟩ (.int .i64 (cb)) = wz at *
  exact bodyPost_ret (v := ans (E) (0) (0) (0) ⟨#[]⟩ (cb)) (by simp [results, Tryz.results41, go_sem, k0, k1, k2, k3, k4, k5]) rfl ⟨rfl, TZ⟩
set_option maxRecDepth 20000 in
theorem n_find (g : Things W w (tnl x S ts)) {b : Int} (b0 : 0 ≤ b) (b1 : b ≤ 18446744073709551615) {r : Int} (hr : -9223372036854775808 ≤ r ∧ r ≤ 9223372036854775807) : Calls Tryz.prog 45 #[.pointer (some ⟨x.T, 0, none⟩), .int .u64 b, .int .i64 r] w fun e w' => e = .returned (.tuple #[.int .i64 (Ka.fiV S.c b r), .int .i64 (Ka.fiE S.c b r)]) ∧ Things W w' (tnl x S ts) := by
  have G := hid g
  have c4 := tn_cell g 4 rfl
  have H1 := hid fun (w : World) (g : Things W w (tnl x S ts)) => kq_find g 1 rfl b0 b1 hr
  generalize Ka.fiV S.c b r = fv at *
  generalize Ka.fiE S.c b r = fe at *
  clear g b0 b1 hr
  go_enter Tryz.func45, Tryz.ntmps45
  go_wp2_with fail
  refine (H1.out _ G.out).mono ?_
  rintro e w1 ⟨rfl, g1⟩
  have G1 := hid g1
  clear g1 G H1 c4
  go_wp2
  go_ret2
  exact ⟨by simp, G1.out⟩
def blS (k : Nat) (S : TnS) (n : Int) : TnS := if S.c.nx = 17592186044416 then S else { S with M := (hM k S.M S.H n).1, H := (hM k S.M S.H n).2.1 }
def blV (k : Nat) (S : TnS) (n : Int) : Int := if S.c.nx = 17592186044416 then 0 else if (hM k S.M S.H n).2.2.2 = 0 then (hM k S.M S.H n).2.2.1 else 0
def blE (k : Nat) (S : TnS) (n : Int) : Int := if S.c.nx = 17592186044416 then 10 else if (hM k S.M S.H n).2.2.2 = 0 then 0 else 10
set_option maxRecDepth 20000 in
theorem n_block (g : Things W w (tnl x S ts)) (gr : G17 W) (hc : Hc x.k S.M S.H) {n : Int} (hn : I64 n) : Calls Tryz.prog 79 #[.pointer (some ⟨x.T, 0, none⟩), .int .i64 n] w fun e w' => e = .returned (.tuple #[.int .i64 (blV x.k S n), .int .i64 (blE x.k S n)]) ∧ Things W w' (tnl x (blS x.k S n) ts) := by
  have G := hid g
  have c4 := tn_cell g 4 rfl
  have H1 := hid fun (w : World) (g : Things W w (tnl x S ts)) => kq_serial g 1 rfl
  by_cases hx : S.c.nx = 17592186044416
  · rw [show blV x.k S n = 0 from if_pos hx, show blE x.k S n = 10 from if_pos hx, show blS x.k S n = S from if_pos hx]
    rw [hx] at H1
    clear g gr hc hn hx
    go_enter Tryz.func79, Tryz.ntmps79
    go_wp2_with fail
    refine (H1.out _ G.out).mono ?_
    rintro e w1 ⟨rfl, g1⟩
    have G1 := hid g1
    clear g1 G H1 c4
    go_wp2
    go_ret2
    exact ⟨by simp, G1.out⟩
  · have H2 : Hid (∀ (w : World), Things W w (tnl x S ts) → Calls Tryz.prog 119 #[.pointer (some ⟨x.h, 0, none⟩), .int .i64 n] w fun e w' => e = .returned (.tuple #[.int .i64 (hM x.k S.M S.H n).2.2.1, .int .i64 (hM x.k S.M S.H n).2.2.2]) ∧ Things W w' (tnl x (blS x.k S n) ts)) := fun w g => (q_malloc g gr 0 rfl hc hn).mono fun e w' ⟨he, h⟩ => ⟨he, by rw [show blS x.k S n = { S with M := (hM x.k S.M S.H n).1, H := (hM x.k S.M S.H n).2.1 } from if_neg hx]; exact h⟩
    have H3 : Hid (∀ (w : World), Things W w (tnl x S ts) → w.cell? ⟨x.T, 3, none⟩ = some (.pointer (some ⟨x.h, 0, none⟩))) := fun w g => tn_cell g 3 rfl
    rw [show blV x.k S n = if (hM x.k S.M S.H n).2.2.2 = 0 then (hM x.k S.M S.H n).2.2.1 else 0 from if_neg hx, show blE x.k S n = if (hM x.k S.M S.H n).2.2.2 = 0 then 0 else 10 from if_neg hx]
    generalize blS x.k S n = S' at *
    generalize (hM x.k S.M S.H n).2.2.1 = av at *
    generalize (hM x.k S.M S.H n).2.2.2 = ev at *
    generalize S.c.nx = nx at *
    clear g gr hc hn
    by_cases he : ev = 0
    · subst he
      rw [if_pos rfl, if_pos rfl]
      go_enter Tryz.func79, Tryz.ntmps79
      go_wp2_with fail
      refine (H1.out _ G.out).mono ?_
      rintro e w1 ⟨rfl, g1⟩
      have G1 := hid g1
      have c3 := H3.out _ g1
      clear g1 G H1 c4 H3
      go_wp2_with fail
      refine (H2.out _ G1.out).mono ?_
      rintro e w2 ⟨rfl, g2⟩
      have G2 := hid g2
      clear g2 G1 H2 c3
      go_wp2
      go_ret2
      exact ⟨by simp, G2.out⟩
    · rw [if_neg he, if_neg he]
      go_enter Tryz.func79, Tryz.ntmps79
      go_wp2_with fail
      refine (H1.out _ G.out).mono ?_
      rintro e w1 ⟨rfl, g1⟩
      have G1 := hid g1
      have c3 := H3.out _ g1
      clear g1 G H1 c4 H3
      go_wp2_with fail
      refine (H2.out _ G1.out).mono ?_
      rintro e w2 ⟨rfl, g2⟩
      have G2 := hid g2
      clear g2 G1 H2 c3
      go_wp2
      go_ret2
      exact ⟨by simp, G2.out⟩
end
end Go.Proofs.YtioplfbkfokkfaaGreatDoor

namespace Go.Proofs.YtioplfbkfokkfaaGreatDoor
open Go.RowKit
open An

section
variable {W w : World} {x : Tp} {S : TnS} {ts : List (World → (Nat → Prop) → Prop)}
def tk1 (S : TnS) (n : Int) : TnS := { S with s := Qt.resS S.s (chargeI n) 0 }
def tkS (k : Nat) (S : TnS) (n : Int) : TnS := if ofI n < 0 then S else if Qt.resE S.s (chargeI n) 0 = 0 then (if blE k (tk1 S n) n = 0 then { blS k (tk1 S n) n with s := Qt.comS (Qt.resS S.s (chargeI n) 0) (chargeI n) 0 } else { blS k (tk1 S n) n with s := Qt.canS (Qt.resS S.s (chargeI n) 0) (chargeI n) 0 }) else tk1 S n
def tkV (k : Nat) (S : TnS) (n : Int) : Int := if ofI n < 0 then 0 else if Qt.resE S.s (chargeI n) 0 = 0 then (if blE k (tk1 S n) n = 0 then blV k (tk1 S n) n else 0) else 0
def tkE (k : Nat) (S : TnS) (n : Int) : Int := if ofI n < 0 then 2 else if Qt.resE S.s (chargeI n) 0 = 0 then (if blE k (tk1 S n) n = 0 then Qt.comE (Qt.resS S.s (chargeI n) 0) (chargeI n) 0 else blE k (tk1 S n) n) else Qt.resE S.s (chargeI n) 0
theorem blS_s (k : Nat) (S : TnS) (n : Int) : (blS k S n).s = S.s := by unfold blS; split <;> rfl
theorem n_charge' (n : Int) (gr : G17 W) (L : List (World → (Nat → Prop) → Prop)) (g : Things W w L) : Calls Tryz.prog 58 #[.int .i64 n] w fun e w' => e = .returned (.complex .f64 (fb (chargeI n)) (fb 0)) ∧ Things W w' L :=
  (n_charge n (K.start (gr.fr g.nw.fr).1)).mono fun _ _ ⟨he, f⟩ => ⟨he, g.kept f⟩
set_option maxRecDepth 20000 in
theorem n_take (g : Things W w (tnl x S ts)) (gr : G17 W) (hc : Hc x.k S.M S.H) {n : Int} (hn : I64 n) : Calls Tryz.prog 40 #[.pointer (some ⟨x.T, 0, none⟩), .int .i64 n] w fun e w' => e = .returned (.tuple #[.int .i64 (tkV x.k S n), .int .i64 (tkE x.k S n)]) ∧ Things W w' (tnl x (tkS x.k S n) ts) := by
  have G := hid g
  have HO : Hid (∀ (w : World), Things W w (tnl x S ts) → Calls Tryz.prog 53 #[.int .i64 n] w fun e w' => e = .returned (.int .i64 (ofI n)) ∧ Things W w' (tnl x S ts)) := fun w g => (k_of n (K.start (gr.fr g.nw.fr).1)).mono fun e w' ⟨he, hk⟩ => ⟨he, g.kept hk.fr⟩
  by_cases h0 : ofI n < 0
  case pos =>
    rw [show tkV x.k S n = 0 from if_pos h0, show tkE x.k S n = 2 from if_pos h0, show tkS x.k S n = S from if_pos h0]
    clear g gr hc hn
    generalize ofI n = kd at *
    go_enter Tryz.func40, Tryz.ntmps40
    go_wp2_with fail
    refine (HO.out _ G.out).mono ?_
    rintro e w1 ⟨rfl, g1⟩
    have G1 := hid g1
    clear g1 G HO
    go_wp2
    go_ret2
    exact ⟨by simp, G1.out⟩
  case neg =>
    have HC : Hid (∀ (w : World) (L : List (World → (Nat → Prop) → Prop)), Things W w L → Calls Tryz.prog 58 #[.int .i64 n] w fun e w' => e = .returned (.complex .f64 (fb (chargeI n)) (fb 0)) ∧ Things W w' L) := fun w L g => n_charge' n gr L g
    have H1 : Hid (∀ (w : World), Things W w (tnl x S ts) → Calls Tryz.prog 78 #[.pointer (some ⟨x.q, 0, none⟩), .complex .f64 (fb (chargeI n)) (fb 0)] w fun e w' => e = .returned (.int .i64 (Qt.resE S.s (chargeI n) 0)) ∧ Things W w' (tnl x (tk1 S n) ts)) := fun w g => kq_res g 2 rfl (charge_rt n)
    have H5 : Hid (∀ (w : World) (S : TnS), Things W w (tnl x S ts) → w.cell? ⟨x.T, 5, none⟩ = some (.pointer (some ⟨x.q, 0, none⟩))) := fun w S g => tn_cell g 5 rfl
    by_cases h1 : Qt.resE S.s (chargeI n) 0 = 0
    case neg =>
      rw [show tkV x.k S n = 0 from (if_neg h0).trans (if_neg h1), show tkE x.k S n = Qt.resE S.s (chargeI n) 0 from (if_neg h0).trans (if_neg h1), show tkS x.k S n = tk1 S n from (if_neg h0).trans (if_neg h1)]
      generalize tk1 S n = S1 at *
      generalize Qt.resE S.s (chargeI n) 0 = re at *
      generalize fb (chargeI n) = xb at *
      generalize fb 0 = yb at *
      generalize ofI n = kd at *
      clear g gr hc hn
      go_enter Tryz.func40, Tryz.ntmps40
      go_wp2_with fail
      refine (HO.out _ G.out).mono ?_
      rintro e w1 ⟨rfl, g1⟩
      have G1 := hid g1
      have c5 := H5.out _ _ g1
      clear g1 G HO
      have TD := hid (G1.out.kept (Fr.refl _ _).drew)
      have pd := H5.out _ _ TD.out
      clear G1 c5
      go_wp2_with fail
      go_region_held3 (fun w' => w'.cell? ⟨x.T, 5, none⟩ = some (.pointer (some ⟨x.q, 0, none⟩))) (first | assumption | go_keep) (first | (go_at_call 58; refine (HC.out _ _ TD.out).mono ?_; rintro e w2 ⟨rfl, g2⟩; have T2 := hid g2; have p2 := H5.out _ _ g2; clear g2) | (go_at_call 78; refine (H1.out _ T2.out).mono ?_; rintro e w3 ⟨rfl, g3⟩; have T3 := hid g3; have p3 := H5.out _ _ g3; clear g3))
      clear TD T2 pd p2 H1
      go_wp2
      go_ret2
      exact ⟨by simp, T3.out⟩
    case pos =>
      have HB := hid fun (w : World) (g : Things W w (tnl x (tk1 S n) ts)) => n_block g gr hc hn
      rw [h1] at H1
      by_cases h2 : blE x.k (tk1 S n) n = 0
      · rw [show tkV x.k S n = blV x.k (tk1 S n) n from (if_neg h0).trans ((if_pos h1).trans (if_pos h2)), show tkE x.k S n = Qt.comE (Qt.resS S.s (chargeI n) 0) (chargeI n) 0 from (if_neg h0).trans ((if_pos h1).trans (if_pos h2)), show tkS x.k S n = { blS x.k (tk1 S n) n with s := Qt.comS (Qt.resS S.s (chargeI n) 0) (chargeI n) 0 } from (if_neg h0).trans ((if_pos h1).trans (if_pos h2))]
        have H2 : Hid (∀ (w : World), Things W w (tnl x (blS x.k (tk1 S n) n) ts) → Calls Tryz.prog 81 #[.pointer (some ⟨x.q, 0, none⟩), .complex .f64 (fb (chargeI n)) (fb 0)] w fun e w' => e = .returned (.int .i64 (Qt.comE (Qt.resS S.s (chargeI n) 0) (chargeI n) 0)) ∧ Things W w' (tnl x { blS x.k (tk1 S n) n with s := Qt.comS (Qt.resS S.s (chargeI n) 0) (chargeI n) 0 } ts)) := fun w g => by
          have h := kq_com g 2 rfl (charge_rt n)
          rw [blS_s] at h
          exact h
        rw [h2] at HB
        generalize blS x.k (tk1 S n) n = S2 at *
        generalize blV x.k (tk1 S n) n = bv at *
        generalize { S2 with s := Qt.comS (Qt.resS S.s (chargeI n) 0) (chargeI n) 0 } = S3 at *
        generalize Qt.comE (Qt.resS S.s (chargeI n) 0) (chargeI n) 0 = ce at *
        generalize tk1 S n = S1 at *
        generalize fb (chargeI n) = xb at *
        generalize fb 0 = yb at *
        generalize ofI n = kd at *
        clear g gr hc hn h1 h2
        go_enter Tryz.func40, Tryz.ntmps40
        go_wp2_with fail
        refine (HO.out _ G.out).mono ?_
        rintro e w1 ⟨rfl, g1⟩
        have G1 := hid g1
        have c5 := H5.out _ _ g1
        clear g1 G HO
        have TD := hid (G1.out.kept (Fr.refl _ _).drew)
        have pd := H5.out _ _ TD.out
        clear G1 c5
        go_wp2_with fail
        go_region_held3 (fun w' => w'.cell? ⟨x.T, 5, none⟩ = some (.pointer (some ⟨x.q, 0, none⟩))) (first | assumption | go_keep) (first | (go_at_call 58; refine (HC.out _ _ TD.out).mono ?_; rintro e w2 ⟨rfl, g2⟩; have T2 := hid g2; have p2 := H5.out _ _ g2; clear g2) | (go_at_call 78; refine (H1.out _ T2.out).mono ?_; rintro e w3 ⟨rfl, g3⟩; have T3 := hid g3; have p3 := H5.out _ _ g3; clear g3))
        clear TD T2 pd p2 H1
        go_wp2_with fail
        refine (HB.out _ T3.out).mono ?_
        rintro e w4 ⟨rfl, g4⟩
        have TE := hid (g4.kept (Fr.refl _ _).drew)
        have pe := H5.out _ _ TE.out
        clear g4 T3 HB p3
        go_wp2_with fail
        go_region_held3 (fun w' => w'.cell? ⟨x.T, 5, none⟩ = some (.pointer (some ⟨x.q, 0, none⟩))) (first | assumption | go_keep) (first | (go_at_call 58; refine (HC.out _ _ TE.out).mono ?_; rintro e w5 ⟨rfl, g5⟩; have T5 := hid g5; have p5 := H5.out _ _ g5; clear g5) | (go_at_call 81; refine (H2.out _ T5.out).mono ?_; rintro e w6 ⟨rfl, g6⟩; have T6 := hid g6; have p6 := H5.out _ _ g6; clear g6))
        clear TE T5 pe p5 H2
        go_wp2
        go_ret2
        exact ⟨by simp, T6.out⟩
      · rw [show tkV x.k S n = 0 from (if_neg h0).trans ((if_pos h1).trans (if_neg h2)), show tkE x.k S n = blE x.k (tk1 S n) n from (if_neg h0).trans ((if_pos h1).trans (if_neg h2)), show tkS x.k S n = { blS x.k (tk1 S n) n with s := Qt.canS (Qt.resS S.s (chargeI n) 0) (chargeI n) 0 } from (if_neg h0).trans ((if_pos h1).trans (if_neg h2))]
        have H2 : Hid (∀ (w : World), Things W w (tnl x (blS x.k (tk1 S n) n) ts) → Calls Tryz.prog 80 #[.pointer (some ⟨x.q, 0, none⟩), .complex .f64 (fb (chargeI n)) (fb 0)] w fun e w' => e = .returned (.int .i64 (Qt.canE (Qt.resS S.s (chargeI n) 0) (chargeI n) 0)) ∧ Things W w' (tnl x { blS x.k (tk1 S n) n with s := Qt.canS (Qt.resS S.s (chargeI n) 0) (chargeI n) 0 } ts)) := fun w g => by
          have h := kq_can g 2 rfl (charge_rt n)
          rw [blS_s] at h
          exact h
        generalize blS x.k (tk1 S n) n = S2 at *
        generalize blV x.k (tk1 S n) n = bv at *
        generalize blE x.k (tk1 S n) n = be at *
        generalize { S2 with s := Qt.canS (Qt.resS S.s (chargeI n) 0) (chargeI n) 0 } = S3 at *
        generalize Qt.canE (Qt.resS S.s (chargeI n) 0) (chargeI n) 0 = ce at *
        generalize tk1 S n = S1 at *
        generalize fb (chargeI n) = xb at *
        generalize fb 0 = yb at *
        generalize ofI n = kd at *
        clear g gr hc hn h1
        go_enter Tryz.func40, Tryz.ntmps40
        go_wp2_with fail
        refine (HO.out _ G.out).mono ?_
        rintro e w1 ⟨rfl, g1⟩
        have G1 := hid g1
        have c5 := H5.out _ _ g1
        clear g1 G HO
        have TD := hid (G1.out.kept (Fr.refl _ _).drew)
        have pd := H5.out _ _ TD.out
        clear G1 c5
        go_wp2_with fail
        go_region_held3 (fun w' => w'.cell? ⟨x.T, 5, none⟩ = some (.pointer (some ⟨x.q, 0, none⟩))) (first | assumption | go_keep) (first | (go_at_call 58; refine (HC.out _ _ TD.out).mono ?_; rintro e w2 ⟨rfl, g2⟩; have T2 := hid g2; have p2 := H5.out _ _ g2; clear g2) | (go_at_call 78; refine (H1.out _ T2.out).mono ?_; rintro e w3 ⟨rfl, g3⟩; have T3 := hid g3; have p3 := H5.out _ _ g3; clear g3))
        clear TD T2 pd p2 H1
        go_wp2_with fail
        refine (HB.out _ T3.out).mono ?_
        rintro e w4 ⟨rfl, g4⟩
        have TE := hid (g4.kept (Fr.refl _ _).drew)
        have pe := H5.out _ _ TE.out
        clear g4 T3 HB p3
        go_wp2_with fail
        go_region_held3 (fun w' => w'.cell? ⟨x.T, 5, none⟩ = some (.pointer (some ⟨x.q, 0, none⟩))) (first | assumption | go_keep) (first | (go_at_call 58; refine (HC.out _ _ TE.out).mono ?_; rintro e w5 ⟨rfl, g5⟩; have T5 := hid g5; have p5 := H5.out _ _ g5; clear g5) | (go_at_call 80; refine (H2.out _ T5.out).mono ?_; rintro e w6 ⟨rfl, g6⟩; have T6 := hid g6; have p6 := H5.out _ _ g6; clear g6))
        clear TE T5 pe p5 H2
        go_wp2
        go_ret2
        exact ⟨by simp, T6.out⟩
end
end Go.Proofs.YtioplfbkfokkfaaGreatDoor
