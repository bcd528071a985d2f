/-
  Two chains of the program's and two of the document's, side by side: how the law makes them.
-/
import Derived.Test.YtjgkcaibapffhaaChTools
namespace Go.Proofs.Ytjgkcaibapffhaa
open Go.RowKit
open An

/-- A pointer, or none. -/
def pv (o : Option Nat) : Value := .pointer (o.map fun c => ⟨c, 0, none⟩)
def Lo (o : Option Nat) (k : Ck) : List (Nat × Ck) := match o with
  | some c => [(c, k)]
  | none => []
/-- What the pair has: its six cells. -/
def pcs (va v0 v1 vr u0 u1 : Value) : Obj := .cells #[va, v0, v1, vr, u0, u1] 36 (0, 0)
theorem Things.cells {W w : World} {ts : List (World → (Nat → Prop) → Prop)} (h : Things W w ts) (j : Nat) {B : Nat} {ob : Obj} (hj : ts[j]? = some (Blk B ob)) : w.heap[B]? = some ob := by
  obtain ⟨U, h1, _⟩ := h.get j hj
  exact h1.1
theorem Things.setAt {W w : World} {ts : List (World → (Nat → Prop) → Prop)} (h : Things W w ts) (j : Nat) {B : Nat} {cs : Array Value} {T : TypeId} (hj : ts[j]? = some (Blk B (.cells cs T (0, 0)))) (i : Nat) (v : Value) : Things W (w.setCell ⟨B, i, none⟩ v) (ts.set j (Blk B (.cells (cs.setIfInBounds i v) T (0, 0)))) := by
  obtain ⟨U, h1, _, h2⟩ := h.turn j hj
  have f : Fr U w (w.setCell ⟨B, i, none⟩ v) := Fr.setCell (p := ⟨B, i, none⟩) (Fr.refl _ _) h1.2.1 v
  refine h2 _ _ U (Blk.good _ _) ⟨?_, h1.2.1, fun i hi => Nat.lt_of_lt_of_le (h1.2.2 i hi) f.size⟩ (Gw.same h1.2.2 f)
  simp [World.setCell, Array.getElem?_modify, h1.1]
theorem Things.blk {W w : World} {ts : List (World → (Nat → Prop) → Prop)} (h : Things W w ts) (ob : Obj) : Things W (w.alloc ob) (ts ++ [Blk w.heap.size ob]) := h.more (Blk.good _ _) (Blk.new w ob) ((Fr.refl _ _).alloc _) fun i hi => by simp only [World.size_alloc]; omega
theorem pcell {w : World} {B : Nat} {va v0 v1 vr u0 u1 : Value} (h : w.heap[B]? = some (pcs va v0 v1 vr u0 u1)) : (w.cell? ⟨B, 0, none⟩ = some va ∧ w.cell? ⟨B, 1, none⟩ = some v0 ∧ w.cell? ⟨B, 2, none⟩ = some v1) ∧ (w.cell? ⟨B, 3, none⟩ = some vr ∧ w.cell? ⟨B, 4, none⟩ = some u0 ∧ w.cell? ⟨B, 5, none⟩ = some u1) ∧ ∀ k, w.frozen? ⟨B, k, none⟩ = false := by
  unfold pcs at h
  simp [World.cell?, World.frozen?, h]
theorem cell0 {w : World} {B : Nat} {x y : Value} {T : TypeId} (h : w.heap[B]? = some (.cells #[x, y] T (0, 0))) : w.cell? ⟨B, 0, none⟩ = some x := by simp [World.cell?, h]
theorem cell1 {w : World} {B : Nat} {x y : Value} {T : TypeId} (h : w.heap[B]? = some (.cells #[x, y] T (0, 0))) : w.cell? ⟨B, 1, none⟩ = some y := by simp [World.cell?, h]
/-- The pair, and what it leads to, behind so many rounds. -/
def MadeS (W w : World) (Bb P a r N : Nat) (b0 b1 u p : Int) (o0 o1 r0 r1 : Option Nat) : Prop :=
  Things W w [Blk Bb (.cells #[.int .i64 b0, .int .i64 b1] 22 (0, 0)), Blk P (pcs (.pointer (some ⟨a, 0, none⟩)) (pv o0) (pv o1) (.pointer (some ⟨r, 0, none⟩)) (pv r0) (pv r1)), Pc a (List.replicate N 0) [] (Lo o0 ⟨b0.toNat, u.toNat, p.toNat, 0⟩ ++ Lo o1 ⟨b1.toNat, u.toNat, p.toNat, 0⟩), Rf r (List.replicate N 0) [] (Lo r0 ⟨b0.toNat, u.toNat, p.toNat, 0⟩ ++ Lo r1 ⟨b1.toNat, u.toNat, p.toNat, 0⟩)]
set_option maxRecDepth 20000 in
set_option maxHeartbeats 2000000 in
theorem made_any {W w : World} (h : Nw W w) (N : Nat) (hN : N ≤ 2048) (b0 b1 u p : Int) (hb : b0 ≤ 9223372036854775807 ∧ b1 ≤ 9223372036854775807) : Calls Try.prog 8 #[.int .i64 N, .agg #[.int .i64 b0, .int .i64 b1], .int .i64 u, .int .i64 p] w fun e w' => ∃ Bb P a r o0 o1 r0 r1, e = .returned (.tuple #[.pointer (some ⟨P, 0, none⟩), .bool true]) ∧ MadeS W w' Bb P a r N b0 b1 u p o0 o1 r0 r1 ∧ o0.isSome = r0.isSome ∧ o1.isSome = r1.isSome := by
  have T0 : Hid (Things W ((w.alloc (.cells #[.int .i64 b0, .int .i64 b1] 22)).alloc (.cells #[.pointer none, .pointer none, .pointer none, .pointer none, .pointer none, .pointer none] 36)) [Blk w.heap.size (.cells #[.int .i64 b0, .int .i64 b1] 22 (0, 0)), Blk (w.heap.size + 1) (pcs (.pointer none) (.pointer none) (.pointer none) (.pointer none) (.pointer none) (.pointer none))]) := by
    have := ((Things.start h).blk (.cells #[.int .i64 b0, .int .i64 b1] 22)).blk (.cells #[.pointer none, .pointer none, .pointer none, .pointer none, .pointer none, .pointer none] 36)
    show Things _ _ _
    simpa [pcs] using this
  have H0 : Hid (∀ w0 ts, Things W w0 ts → Calls Try.prog 15 #[.int .i64 N] w0 fun e w' => ∃ a, e = .returned (.tuple #[.pointer (some ⟨a, 0, none⟩), .int .i64 0]) ∧ Things W w' (ts ++ [Pc a (List.replicate N 0) [] []])) := fun w0 ts h => g_arena h N (by omega)
  have H1 : Hid (∀ w0 ts, Things W w0 ts → Calls Try.prog 25 #[.int .i64 N] w0 fun e w' => ∃ a, e = .returned (.tuple #[.pointer (some ⟨a, 0, none⟩), .int .i64 0]) ∧ Things W w' (ts ++ [Rf a (List.replicate N 0) [] []])) := fun w0 ts h => y_arena h N (by omega)
  generalize hB : w.heap.size = Bb at T0
  clear h
  go_enter Try.func8, Try.ntmps8
  go_wp2_with fail
  refine (H0.out _ _ T0.out).mono ?_
  rintro e w1 ⟨a, rfl, h1⟩
  have T1 := hid h1
  obtain ⟨⟨c0, c1, c2⟩, ⟨c3, c4, c5⟩, fz⟩ := pcell (h1.cells 1 rfl)
  have T1s : Hid (Things W (w1.setCell ⟨Bb + 1, 0, none⟩ (.pointer (some ⟨a, 0, none⟩))) [Blk Bb (.cells #[.int .i64 b0, .int .i64 b1] 22 (0, 0)), Blk (Bb + 1) (pcs (.pointer (some ⟨a, 0, none⟩)) (.pointer none) (.pointer none) (.pointer none) (.pointer none) (.pointer none)), Pc a (List.replicate N 0) [] []]) := h1.setAt 1 rfl 0 _
  clear h1 T0 H0 hB
  go_wp2_with fail
  refine (H1.out _ _ T1s.out).mono ?_
  rintro e w2 ⟨r, rfl, h2⟩
  clear c0 c1 c2 c3 c4 c5 fz T1 T1s H1
  obtain ⟨⟨c0, c1, c2⟩, ⟨c3, c4, c5⟩, fz⟩ := pcell (h2.cells 1 rfl)
  have T2 : Hid (MadeS W (w2.setCell ⟨Bb + 1, 3, none⟩ (.pointer (some ⟨r, 0, none⟩))) Bb (Bb + 1) a r N b0 b1 u p none none none none) := h2.setAt 1 rfl 3 _
  clear h2
  go_wp2
  clear c0 c1 c2 c3 c4 c5 fz
  go_loopw [32] (fun i wr => ∃ (j : Nat) (o0 o1 r0 r1 : Option Nat), j ≤ 2 ∧ i = .int .i64 j ∧ Hid (MadeS W wr Bb (Bb + 1) a r N b0 b1 u p o0 o1 r0 r1) ∧ o0.isSome = r0.isSome ∧ o1.isSome = r1.isSome ∧ (j ≤ 0 → o0 = none ∧ r0 = none) ∧ (j ≤ 1 → o1 = none ∧ r1 = none)) (fun i _ => 2 - (intOf i).toNat)
  case atStart => exact ⟨0, none, none, none, none, by omega, rfl, T2, rfl, rfl, fun _ => ⟨rfl, rfl⟩, fun _ => ⟨rfl, rfl⟩⟩
  case round =>
    obtain ⟨j, o0, o1, r0, r1, hj, rfl, HM, hs0, hs1, hj0, hj1⟩ := hrel
    clear T2
    have hb := (show Things _ _ _ from HM.out).cells 0 rfl
    have d0 : wr.cell? ⟨Bb, 0, none⟩ = some (.int .i64 b0) := by simp [World.cell?, hb]
    have d1 : wr.cell? ⟨Bb, 1, none⟩ = some (.int .i64 b1) := by simp [World.cell?, hb]
    obtain ⟨⟨c0, c1, c2⟩, ⟨c3, c4, c5⟩, fz⟩ := pcell ((show Things _ _ _ from HM.out).cells 1 rfl)
    clear hb
    obtain rfl | rfl | rfl : j = 0 ∨ j = 1 ∨ j = 2 := by omega
    · obtain ⟨rfl, rfl⟩ := hj0 (by omega)
      obtain ⟨rfl, rfl⟩ := hj1 (by omega)
      clear hj0 hj1 hs1 hj hs0
      have T : Hid (Things W wr [Blk Bb (.cells #[.int .i64 b0, .int .i64 b1] 22 (0, 0)), Blk (Bb + 1) (pcs (.pointer (some ⟨a, 0, none⟩)) (.pointer none) (.pointer none) (.pointer (some ⟨r, 0, none⟩)) (.pointer none) (.pointer none)), Pc a (List.replicate N 0) [] [], Rf r (List.replicate N 0) [] []]) := HM.out
      clear HM
      by_cases hok : NewOk (List.replicate N (0 : UInt8)).length b0 u p
      · have HN1 : Hid (∀ w0, Fr (fun _ => False) wr w0 → Calls Try.prog 16 #[.pointer (some ⟨a, 0, none⟩), .int .i64 b0, .int .i64 u, .int .i64 p] w0 fun e w' => ∃ c, e = .returned (.tuple #[.pointer (some ⟨c, 0, none⟩), .int .i64 0]) ∧ Things W w' [Blk Bb (.cells #[.int .i64 b0, .int .i64 b1] 22 (0, 0)), Blk (Bb + 1) (pcs (.pointer (some ⟨a, 0, none⟩)) (.pointer none) (.pointer none) (.pointer (some ⟨r, 0, none⟩)) (.pointer none) (.pointer none)), Pc a (List.replicate N 0) [] [(c, ⟨b0.toNat, u.toNat, p.toNat, 0⟩)], Rf r (List.replicate N 0) [] []]) := fun w0 f => g_new (T.out.kept f) 2 rfl hok
        go_wp2_with fail
        go_region_held3 (fun w' => w'.cell? ⟨Bb + 1, 0, none⟩ = some (.pointer (some ⟨a, 0, none⟩)) ∧ w'.cell? ⟨Bb, 0, none⟩ = some (.int .i64 b0)) (first | exact ⟨by assumption, by assumption⟩ | go_keep) (first | (go_at_call 16; refine (HN1.out _ (Fr.refl _ _).drew).mono ?_; rintro e w3 ⟨c, rfl, h3⟩; obtain ⟨⟨e0, e1, e2⟩, ⟨e3, e4, e5⟩, fz3⟩ := pcell (h3.cells 1 rfl); have e6 := cell0 (h3.cells 0 rfl); have T3 : Hid (Things W (w3.setCell ⟨Bb + 1, 1, none⟩ (.pointer (some ⟨c, 0, none⟩))) [Blk Bb (.cells #[.int .i64 b0, .int .i64 b1] 22 (0, 0)), Blk (Bb + 1) (pcs (.pointer (some ⟨a, 0, none⟩)) (.pointer (some ⟨c, 0, none⟩)) (.pointer none) (.pointer (some ⟨r, 0, none⟩)) (.pointer none) (.pointer none)), Pc a (List.replicate N 0) [] [(c, ⟨b0.toNat, u.toNat, p.toNat, 0⟩)], Rf r (List.replicate N 0) [] []]) := h3.setAt 1 rfl 1 _; obtain ⟨⟨s0, s1, s2⟩, ⟨s3, s4, s5⟩, fz4⟩ := pcell (T3.out.cells 1 rfl); have s6 := cell0 (T3.out.cells 0 rfl); clear h3))
        clear e0 e1 e2 e3 e4 e5 e6 fz3 c0 c1 c2 c3 c4 c5 fz d0 d1 HN1 T
        generalize hw3 : w3.setCell ⟨Bb + 1, 1, none⟩ (.pointer (some ⟨c, 0, none⟩)) = w4 at *
        clear hw3
        have HN2 : Hid (∀ w0, Fr (fun _ => False) w4 w0 → Calls Try.prog 26 #[.pointer (some ⟨r, 0, none⟩), .int .i64 b0, .int .i64 u, .int .i64 p] w0 fun e w' => ∃ x, e = .returned (.tuple #[.pointer (some ⟨x, 0, none⟩), .int .i64 0]) ∧ Things W w' [Blk Bb (.cells #[.int .i64 b0, .int .i64 b1] 22 (0, 0)), Blk (Bb + 1) (pcs (.pointer (some ⟨a, 0, none⟩)) (.pointer (some ⟨c, 0, none⟩)) (.pointer none) (.pointer (some ⟨r, 0, none⟩)) (.pointer none) (.pointer none)), Pc a (List.replicate N 0) [] [(c, ⟨b0.toNat, u.toNat, p.toNat, 0⟩)], Rf r (List.replicate N 0) [] [(x, ⟨b0.toNat, u.toNat, p.toNat, 0⟩)]]) := fun w0 f => y_new (T3.out.kept f) 3 rfl hok
        go_wp2_with fail
        go_region_held3 (fun w' => w'.cell? ⟨Bb + 1, 3, none⟩ = some (.pointer (some ⟨r, 0, none⟩)) ∧ w'.cell? ⟨Bb, 0, none⟩ = some (.int .i64 b0)) (first | exact ⟨by assumption, by assumption⟩ | go_keep) (first | (go_at_call 26; refine (HN2.out _ (Fr.refl _ _).drew).mono ?_; rintro e w5 ⟨x, rfl, h5⟩; obtain ⟨⟨e0, e1, e2⟩, ⟨e3, e4, e5⟩, fz5⟩ := pcell (h5.cells 1 rfl); have e6 := cell0 (h5.cells 0 rfl); have T5 : Hid (Things W (w5.setCell ⟨Bb + 1, 4, none⟩ (.pointer (some ⟨x, 0, none⟩))) [Blk Bb (.cells #[.int .i64 b0, .int .i64 b1] 22 (0, 0)), Blk (Bb + 1) (pcs (.pointer (some ⟨a, 0, none⟩)) (.pointer (some ⟨c, 0, none⟩)) (.pointer none) (.pointer (some ⟨r, 0, none⟩)) (.pointer (some ⟨x, 0, none⟩)) (.pointer none)), Pc a (List.replicate N 0) [] [(c, ⟨b0.toNat, u.toNat, p.toNat, 0⟩)], Rf r (List.replicate N 0) [] [(x, ⟨b0.toNat, u.toNat, p.toNat, 0⟩)]]) := h5.setAt 1 rfl 4 _; obtain ⟨⟨q0, q1, q2⟩, ⟨q3, q4, q5⟩, fz6⟩ := pcell (T5.out.cells 1 rfl); have q6 := cell0 (T5.out.cells 0 rfl); clear h5))
        clear e0 e1 e2 e3 e4 e5 e6 fz5 s0 s1 s2 s3 s4 s5 s6 fz4 HN2 T3
        generalize hw5 : w5.setCell ⟨Bb + 1, 4, none⟩ (.pointer (some ⟨x, 0, none⟩)) = w6 at *
        clear hw5
        go_wp2
        go_roundw
        case rel => exact ⟨1, some c, none, some x, none, by omega, by go_num, T5, rfl, rfl, fun e => by omega, fun _ => ⟨rfl, rfl⟩⟩
        case measure => simp [intOf]
      · have HN1 : Hid (∀ w0, Fr (fun _ => False) wr w0 → Calls Try.prog 16 #[.pointer (some ⟨a, 0, none⟩), .int .i64 b0, .int .i64 u, .int .i64 p] w0 fun e w' => e = .returned (.tuple #[.pointer none, .int .i64 12]) ∧ Things W w' [Blk Bb (.cells #[.int .i64 b0, .int .i64 b1] 22 (0, 0)), Blk (Bb + 1) (pcs (.pointer (some ⟨a, 0, none⟩)) (.pointer none) (.pointer none) (.pointer (some ⟨r, 0, none⟩)) (.pointer none) (.pointer none)), Pc a (List.replicate N 0) [] [], Rf r (List.replicate N 0) [] []]) := fun w0 f => g_new_no (T.out.kept f) 2 rfl hok hb.1
        go_wp2_with fail
        go_region_held3 (fun w' => w'.cell? ⟨Bb + 1, 0, none⟩ = some (.pointer (some ⟨a, 0, none⟩)) ∧ w'.cell? ⟨Bb, 0, none⟩ = some (.int .i64 b0)) (first | exact ⟨by assumption, by assumption⟩ | go_keep) (first | (go_at_call 16; refine (HN1.out _ (Fr.refl _ _).drew).mono ?_; rintro e w3 ⟨rfl, h3⟩; obtain ⟨⟨e0, e1, e2⟩, ⟨e3, e4, e5⟩, fz3⟩ := pcell (h3.cells 1 rfl); have e6 := cell0 (h3.cells 0 rfl); have T3 : Hid (Things W (w3.setCell ⟨Bb + 1, 1, none⟩ (.pointer none)) [Blk Bb (.cells #[.int .i64 b0, .int .i64 b1] 22 (0, 0)), Blk (Bb + 1) (pcs (.pointer (some ⟨a, 0, none⟩)) (.pointer none) (.pointer none) (.pointer (some ⟨r, 0, none⟩)) (.pointer none) (.pointer none)), Pc a (List.replicate N 0) [] [], Rf r (List.replicate N 0) [] []]) := h3.setAt 1 rfl 1 _; obtain ⟨⟨s0, s1, s2⟩, ⟨s3, s4, s5⟩, fz4⟩ := pcell (T3.out.cells 1 rfl); have s6 := cell0 (T3.out.cells 0 rfl); clear h3))
        clear e0 e1 e2 e3 e4 e5 e6 fz3 c0 c1 c2 c3 c4 c5 fz d0 d1 HN1 T
        generalize hw3 : w3.setCell ⟨Bb + 1, 1, none⟩ (.pointer none) = w4 at *
        clear hw3
        have HN2 : Hid (∀ w0, Fr (fun _ => False) w4 w0 → Calls Try.prog 26 #[.pointer (some ⟨r, 0, none⟩), .int .i64 b0, .int .i64 u, .int .i64 p] w0 fun e w' => e = .returned (.tuple #[.pointer none, .int .i64 12]) ∧ Things W w' [Blk Bb (.cells #[.int .i64 b0, .int .i64 b1] 22 (0, 0)), Blk (Bb + 1) (pcs (.pointer (some ⟨a, 0, none⟩)) (.pointer none) (.pointer none) (.pointer (some ⟨r, 0, none⟩)) (.pointer none) (.pointer none)), Pc a (List.replicate N 0) [] [], Rf r (List.replicate N 0) [] []]) := fun w0 f => y_new_no (T3.out.kept f) 3 rfl hok
        go_wp2_with fail
        go_region_held3 (fun w' => w'.cell? ⟨Bb + 1, 3, none⟩ = some (.pointer (some ⟨r, 0, none⟩)) ∧ w'.cell? ⟨Bb, 0, none⟩ = some (.int .i64 b0)) (first | exact ⟨by assumption, by assumption⟩ | go_keep) (first | (go_at_call 26; refine (HN2.out _ (Fr.refl _ _).drew).mono ?_; rintro e w5 ⟨rfl, h5⟩; obtain ⟨⟨e0, e1, e2⟩, ⟨e3, e4, e5⟩, fz5⟩ := pcell (h5.cells 1 rfl); have e6 := cell0 (h5.cells 0 rfl); have T5 : Hid (Things W (w5.setCell ⟨Bb + 1, 4, none⟩ (.pointer none)) [Blk Bb (.cells #[.int .i64 b0, .int .i64 b1] 22 (0, 0)), Blk (Bb + 1) (pcs (.pointer (some ⟨a, 0, none⟩)) (.pointer none) (.pointer none) (.pointer (some ⟨r, 0, none⟩)) (.pointer none) (.pointer none)), Pc a (List.replicate N 0) [] [], Rf r (List.replicate N 0) [] []]) := h5.setAt 1 rfl 4 _; obtain ⟨⟨q0, q1, q2⟩, ⟨q3, q4, q5⟩, fz6⟩ := pcell (T5.out.cells 1 rfl); have q6 := cell0 (T5.out.cells 0 rfl); clear h5))
        clear e0 e1 e2 e3 e4 e5 e6 fz5 s0 s1 s2 s3 s4 s5 s6 fz4 HN2 T3
        generalize hw5 : w5.setCell ⟨Bb + 1, 4, none⟩ (.pointer none) = w6 at *
        clear hw5
        go_wp2
        go_roundw
        case rel => exact ⟨1, none, none, none, none, by omega, by go_num, T5, rfl, rfl, fun e => by omega, fun _ => ⟨rfl, rfl⟩⟩
        case measure => simp [intOf]
    · obtain ⟨rfl, rfl⟩ := hj1 (by omega)
      clear hj0 hj1 hs1 hj
      have T : Hid (Things W wr [Blk Bb (.cells #[.int .i64 b0, .int .i64 b1] 22 (0, 0)), Blk (Bb + 1) (pcs (.pointer (some ⟨a, 0, none⟩)) (pv o0) (.pointer none) (.pointer (some ⟨r, 0, none⟩)) (pv r0) (.pointer none)), Pc a (List.replicate N 0) [] (Lo o0 ⟨b0.toNat, u.toNat, p.toNat, 0⟩), Rf r (List.replicate N 0) [] (Lo r0 ⟨b0.toNat, u.toNat, p.toNat, 0⟩)]) := by
        have h := HM.out
        unfold MadeS at h
        rw [show Lo o0 ⟨b0.toNat, u.toNat, p.toNat, 0⟩ ++ Lo none ⟨b1.toNat, u.toNat, p.toNat, 0⟩ = Lo o0 ⟨b0.toNat, u.toNat, p.toNat, 0⟩ from List.append_nil _, show Lo r0 ⟨b0.toNat, u.toNat, p.toNat, 0⟩ ++ Lo none ⟨b1.toNat, u.toNat, p.toNat, 0⟩ = Lo r0 ⟨b0.toNat, u.toNat, p.toNat, 0⟩ from List.append_nil _] at h
        exact h
      clear HM
      by_cases hok : NewOk (List.replicate N (0 : UInt8)).length b1 u p
      · have HN1 : Hid (∀ w0, Fr (fun _ => False) wr w0 → Calls Try.prog 16 #[.pointer (some ⟨a, 0, none⟩), .int .i64 b1, .int .i64 u, .int .i64 p] w0 fun e w' => ∃ c, e = .returned (.tuple #[.pointer (some ⟨c, 0, none⟩), .int .i64 0]) ∧ Things W w' [Blk Bb (.cells #[.int .i64 b0, .int .i64 b1] 22 (0, 0)), Blk (Bb + 1) (pcs (.pointer (some ⟨a, 0, none⟩)) (pv o0) (.pointer none) (.pointer (some ⟨r, 0, none⟩)) (pv r0) (.pointer none)), Pc a (List.replicate N 0) [] (Lo o0 ⟨b0.toNat, u.toNat, p.toNat, 0⟩ ++ [(c, ⟨b1.toNat, u.toNat, p.toNat, 0⟩)]), Rf r (List.replicate N 0) [] (Lo r0 ⟨b0.toNat, u.toNat, p.toNat, 0⟩)]) := fun w0 f => g_new (T.out.kept f) 2 rfl hok
        go_wp2_with fail
        go_region_held3 (fun w' => w'.cell? ⟨Bb + 1, 0, none⟩ = some (.pointer (some ⟨a, 0, none⟩)) ∧ w'.cell? ⟨Bb, 1, none⟩ = some (.int .i64 b1)) (first | exact ⟨by assumption, by assumption⟩ | go_keep) (first | (go_at_call 16; refine (HN1.out _ (Fr.refl _ _).drew).mono ?_; rintro e w3 ⟨c, rfl, h3⟩; obtain ⟨⟨e0, e1, e2⟩, ⟨e3, e4, e5⟩, fz3⟩ := pcell (h3.cells 1 rfl); have e6 := cell1 (h3.cells 0 rfl); have T3 : Hid (Things W (w3.setCell ⟨Bb + 1, 2, none⟩ (.pointer (some ⟨c, 0, none⟩))) [Blk Bb (.cells #[.int .i64 b0, .int .i64 b1] 22 (0, 0)), Blk (Bb + 1) (pcs (.pointer (some ⟨a, 0, none⟩)) (pv o0) (.pointer (some ⟨c, 0, none⟩)) (.pointer (some ⟨r, 0, none⟩)) (pv r0) (.pointer none)), Pc a (List.replicate N 0) [] (Lo o0 ⟨b0.toNat, u.toNat, p.toNat, 0⟩ ++ [(c, ⟨b1.toNat, u.toNat, p.toNat, 0⟩)]), Rf r (List.replicate N 0) [] (Lo r0 ⟨b0.toNat, u.toNat, p.toNat, 0⟩)]) := h3.setAt 1 rfl 2 _; obtain ⟨⟨s0, s1, s2⟩, ⟨s3, s4, s5⟩, fz4⟩ := pcell (T3.out.cells 1 rfl); have s6 := cell1 (T3.out.cells 0 rfl); clear h3))
        clear e0 e1 e2 e3 e4 e5 e6 fz3 c0 c1 c2 c3 c4 c5 fz d0 d1 HN1 T
        generalize hw3 : w3.setCell ⟨Bb + 1, 2, none⟩ (.pointer (some ⟨c, 0, none⟩)) = w4 at *
        clear hw3
        have HN2 : Hid (∀ w0, Fr (fun _ => False) w4 w0 → Calls Try.prog 26 #[.pointer (some ⟨r, 0, none⟩), .int .i64 b1, .int .i64 u, .int .i64 p] w0 fun e w' => ∃ x, e = .returned (.tuple #[.pointer (some ⟨x, 0, none⟩), .int .i64 0]) ∧ Things W w' [Blk Bb (.cells #[.int .i64 b0, .int .i64 b1] 22 (0, 0)), Blk (Bb + 1) (pcs (.pointer (some ⟨a, 0, none⟩)) (pv o0) (.pointer (some ⟨c, 0, none⟩)) (.pointer (some ⟨r, 0, none⟩)) (pv r0) (.pointer none)), Pc a (List.replicate N 0) [] (Lo o0 ⟨b0.toNat, u.toNat, p.toNat, 0⟩ ++ [(c, ⟨b1.toNat, u.toNat, p.toNat, 0⟩)]), Rf r (List.replicate N 0) [] (Lo r0 ⟨b0.toNat, u.toNat, p.toNat, 0⟩ ++ [(x, ⟨b1.toNat, u.toNat, p.toNat, 0⟩)])]) := fun w0 f => y_new (T3.out.kept f) 3 rfl hok
        go_wp2_with fail
        go_region_held3 (fun w' => w'.cell? ⟨Bb + 1, 3, none⟩ = some (.pointer (some ⟨r, 0, none⟩)) ∧ w'.cell? ⟨Bb, 1, none⟩ = some (.int .i64 b1)) (first | exact ⟨by assumption, by assumption⟩ | go_keep) (first | (go_at_call 26; refine (HN2.out _ (Fr.refl _ _).drew).mono ?_; rintro e w5 ⟨x, rfl, h5⟩; obtain ⟨⟨e0, e1, e2⟩, ⟨e3, e4, e5⟩, fz5⟩ := pcell (h5.cells 1 rfl); have e6 := cell1 (h5.cells 0 rfl); have T5 : Hid (Things W (w5.setCell ⟨Bb + 1, 5, none⟩ (.pointer (some ⟨x, 0, none⟩))) [Blk Bb (.cells #[.int .i64 b0, .int .i64 b1] 22 (0, 0)), Blk (Bb + 1) (pcs (.pointer (some ⟨a, 0, none⟩)) (pv o0) (.pointer (some ⟨c, 0, none⟩)) (.pointer (some ⟨r, 0, none⟩)) (pv r0) (.pointer (some ⟨x, 0, none⟩))), Pc a (List.replicate N 0) [] (Lo o0 ⟨b0.toNat, u.toNat, p.toNat, 0⟩ ++ [(c, ⟨b1.toNat, u.toNat, p.toNat, 0⟩)]), Rf r (List.replicate N 0) [] (Lo r0 ⟨b0.toNat, u.toNat, p.toNat, 0⟩ ++ [(x, ⟨b1.toNat, u.toNat, p.toNat, 0⟩)])]) := h5.setAt 1 rfl 5 _; obtain ⟨⟨q0, q1, q2⟩, ⟨q3, q4, q5⟩, fz6⟩ := pcell (T5.out.cells 1 rfl); have q6 := cell1 (T5.out.cells 0 rfl); clear h5))
        clear e0 e1 e2 e3 e4 e5 e6 fz5 s0 s1 s2 s3 s4 s5 s6 fz4 HN2 T3
        generalize hw5 : w5.setCell ⟨Bb + 1, 5, none⟩ (.pointer (some ⟨x, 0, none⟩)) = w6 at *
        clear hw5
        go_wp2
        go_roundw
        case rel => exact ⟨2, o0, some c, r0, some x, by omega, by go_num, T5, hs0, rfl, fun e => by omega, fun e => by omega⟩
        case measure => simp [intOf]
      · have HN1 : Hid (∀ w0, Fr (fun _ => False) wr w0 → Calls Try.prog 16 #[.pointer (some ⟨a, 0, none⟩), .int .i64 b1, .int .i64 u, .int .i64 p] w0 fun e w' => e = .returned (.tuple #[.pointer none, .int .i64 12]) ∧ Things W w' [Blk Bb (.cells #[.int .i64 b0, .int .i64 b1] 22 (0, 0)), Blk (Bb + 1) (pcs (.pointer (some ⟨a, 0, none⟩)) (pv o0) (.pointer none) (.pointer (some ⟨r, 0, none⟩)) (pv r0) (.pointer none)), Pc a (List.replicate N 0) [] (Lo o0 ⟨b0.toNat, u.toNat, p.toNat, 0⟩), Rf r (List.replicate N 0) [] (Lo r0 ⟨b0.toNat, u.toNat, p.toNat, 0⟩)]) := fun w0 f => g_new_no (T.out.kept f) 2 rfl hok hb.2
        go_wp2_with fail
        go_region_held3 (fun w' => w'.cell? ⟨Bb + 1, 0, none⟩ = some (.pointer (some ⟨a, 0, none⟩)) ∧ w'.cell? ⟨Bb, 1, none⟩ = some (.int .i64 b1)) (first | exact ⟨by assumption, by assumption⟩ | go_keep) (first | (go_at_call 16; refine (HN1.out _ (Fr.refl _ _).drew).mono ?_; rintro e w3 ⟨rfl, h3⟩; obtain ⟨⟨e0, e1, e2⟩, ⟨e3, e4, e5⟩, fz3⟩ := pcell (h3.cells 1 rfl); have e6 := cell1 (h3.cells 0 rfl); have T3 : Hid (Things W (w3.setCell ⟨Bb + 1, 2, none⟩ (.pointer none)) [Blk Bb (.cells #[.int .i64 b0, .int .i64 b1] 22 (0, 0)), Blk (Bb + 1) (pcs (.pointer (some ⟨a, 0, none⟩)) (pv o0) (.pointer none) (.pointer (some ⟨r, 0, none⟩)) (pv r0) (.pointer none)), Pc a (List.replicate N 0) [] (Lo o0 ⟨b0.toNat, u.toNat, p.toNat, 0⟩), Rf r (List.replicate N 0) [] (Lo r0 ⟨b0.toNat, u.toNat, p.toNat, 0⟩)]) := h3.setAt 1 rfl 2 _; obtain ⟨⟨s0, s1, s2⟩, ⟨s3, s4, s5⟩, fz4⟩ := pcell (T3.out.cells 1 rfl); have s6 := cell1 (T3.out.cells 0 rfl); clear h3))
        clear e0 e1 e2 e3 e4 e5 e6 fz3 c0 c1 c2 c3 c4 c5 fz d0 d1 HN1 T
        generalize hw3 : w3.setCell ⟨Bb + 1, 2, none⟩ (.pointer none) = w4 at *
        clear hw3
        have HN2 : Hid (∀ w0, Fr (fun _ => False) w4 w0 → Calls Try.prog 26 #[.pointer (some ⟨r, 0, none⟩), .int .i64 b1, .int .i64 u, .int .i64 p] w0 fun e w' => e = .returned (.tuple #[.pointer none, .int .i64 12]) ∧ Things W w' [Blk Bb (.cells #[.int .i64 b0, .int .i64 b1] 22 (0, 0)), Blk (Bb + 1) (pcs (.pointer (some ⟨a, 0, none⟩)) (pv o0) (.pointer none) (.pointer (some ⟨r, 0, none⟩)) (pv r0) (.pointer none)), Pc a (List.replicate N 0) [] (Lo o0 ⟨b0.toNat, u.toNat, p.toNat, 0⟩), Rf r (List.replicate N 0) [] (Lo r0 ⟨b0.toNat, u.toNat, p.toNat, 0⟩)]) := fun w0 f => y_new_no (T3.out.kept f) 3 rfl hok
        go_wp2_with fail
        go_region_held3 (fun w' => w'.cell? ⟨Bb + 1, 3, none⟩ = some (.pointer (some ⟨r, 0, none⟩)) ∧ w'.cell? ⟨Bb, 1, none⟩ = some (.int .i64 b1)) (first | exact ⟨by assumption, by assumption⟩ | go_keep) (first | (go_at_call 26; refine (HN2.out _ (Fr.refl _ _).drew).mono ?_; rintro e w5 ⟨rfl, h5⟩; obtain ⟨⟨e0, e1, e2⟩, ⟨e3, e4, e5⟩, fz5⟩ := pcell (h5.cells 1 rfl); have e6 := cell1 (h5.cells 0 rfl); have T5 : Hid (Things W (w5.setCell ⟨Bb + 1, 5, none⟩ (.pointer none)) [Blk Bb (.cells #[.int .i64 b0, .int .i64 b1] 22 (0, 0)), Blk (Bb + 1) (pcs (.pointer (some ⟨a, 0, none⟩)) (pv o0) (.pointer none) (.pointer (some ⟨r, 0, none⟩)) (pv r0) (.pointer none)), Pc a (List.replicate N 0) [] (Lo o0 ⟨b0.toNat, u.toNat, p.toNat, 0⟩), Rf r (List.replicate N 0) [] (Lo r0 ⟨b0.toNat, u.toNat, p.toNat, 0⟩)]) := h5.setAt 1 rfl 5 _; obtain ⟨⟨q0, q1, q2⟩, ⟨q3, q4, q5⟩, fz6⟩ := pcell (T5.out.cells 1 rfl); have q6 := cell1 (T5.out.cells 0 rfl); clear h5))
        clear e0 e1 e2 e3 e4 e5 e6 fz5 s0 s1 s2 s3 s4 s5 s6 fz4 HN2 T3
        generalize hw5 : w5.setCell ⟨Bb + 1, 5, none⟩ (.pointer none) = w6 at *
        clear hw5
        go_wp2
        go_roundw
        case rel => exact ⟨2, o0, none, r0, none, by omega, by go_num, (by show MadeS _ _ _ _ _ _ _ _ _ _ _ _ _ _ _; unfold MadeS; rw [show Lo o0 ⟨b0.toNat, u.toNat, p.toNat, 0⟩ ++ Lo none ⟨b1.toNat, u.toNat, p.toNat, 0⟩ = Lo o0 ⟨b0.toNat, u.toNat, p.toNat, 0⟩ from List.append_nil _, show Lo r0 ⟨b0.toNat, u.toNat, p.toNat, 0⟩ ++ Lo none ⟨b1.toNat, u.toNat, p.toNat, 0⟩ = Lo r0 ⟨b0.toNat, u.toNat, p.toNat, 0⟩ from List.append_nil _]; exact T5.out), hs0, rfl, fun e => by omega, fun e => by omega⟩
        case measure => simp [intOf]
    · go_wp2
      go_ret2
      exact ⟨Bb, Bb + 1, a, r, o0, o1, r0, r1, rfl, HM.out, hs0, hs1⟩
end Go.Proofs.Ytjgkcaibapffhaa
