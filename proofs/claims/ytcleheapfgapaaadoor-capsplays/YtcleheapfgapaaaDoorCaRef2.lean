/-
  The document's table: what Grant, Find, Restrict and Revoke answer and leave.
-/
import Derived.Test.YtcleheapfgapaaaDoorCaPut
namespace Go.Proofs.YtcleheapfgapaaaDoor
open Go.RowKit

/-- A slot's cells in a block of their own. -/
structure Sb (w : World) (B : Nat) (T : Int) (x : Sl) : Prop where
  heap : w.heap[B]? = some (.cells #[.int .i64 T, .int .i64 x.s, .int .i64 x.r, .int .i64 x.n, .int .i64 x.a] 75 (0, 0))
section
variable {w w' : World} {B : Nat} {T : Int} {x : Sl}
theorem Sb.new (w : World) (T : Int) (x : Sl) : Sb (w.alloc (.cells #[.int .i64 T, .int .i64 x.s, .int .i64 x.r, .int .i64 x.n, .int .i64 x.a] 75)) w.heap.size T x := ⟨heap_alloc_new _ _⟩
theorem Sb.lt (h : Sb w B T x) : B < w.heap.size := (Array.getElem?_eq_some_iff.1 h.heap).1
theorem Sb.kept (h : Sb w B T x) (f : Fr (fun _ => False) w w') : Sb w' B T x := ⟨by rw [f.block B h.lt id]; exact h.heap⟩
theorem Sb.c2 (h : Sb w B T x) : w.cell? ⟨B, 2, none⟩ = some (.int .i64 x.r) := by simp [World.cell?, h.heap]
theorem Sb.c4 (h : Sb w B T x) : w.cell? ⟨B, 4, none⟩ = some (.int .i64 x.a) := by simp [World.cell?, h.heap]
end
theorem e_grant {w : World} {base r : Nat} {v : Value} {c : Ct} (h : Rc w base r v c) (x : Int) : Calls Tryd.prog 14 #[.pointer (some ⟨r, 0, none⟩), .int .i64 x] w fun e w' => e = .returned (.tuple #[.int .u64 (grV c x), .int .i64 (grE c x)]) ∧ (∃ v', Rc w' base r v' (grS c x) ∧ Fv w v v') ∧ Fr (fun i => i = r) w w' := by
  have HR := hid h
  by_cases hx : x < 0
  · have HE : Hid (grV c x = 0 ∧ grE c x = 12 ∧ grS c x = c) := ⟨if_pos hx, if_pos hx, if_pos hx⟩
    clear h
    go_enter Tryd.func14, Tryd.ntmps14
    go_wp2
    go_ret2
    exact ⟨by rw [HE.out.1, HE.out.2.1]; simp, ⟨_, by rw [HE.out.2.2]; exact HR.out, .inl rfl⟩, Fr.refl _ _⟩
  · have HE : Hid (grV c x = plV c 0 4096 7 ∧ grE c x = plE c 0 4096 ∧ grS c x = plS c 0 4096 7 x) := ⟨if_neg hx, if_neg hx, if_neg hx⟩
    have H1 := hid (e_put h (lo := 0) (hi := 4096) (a := x) (rr := 7) (by omega) (by omega) (by omega) (by omega) (by omega))
    clear h
    generalize plV c 0 4096 7 = pv at *
    generalize plE c 0 4096 = pe at *
    generalize plS c 0 4096 7 x = ps at *
    go_enter Tryd.func14, Tryd.ntmps14
    go_wp2_with fail
    refine H1.out.mono ?_
    rintro e w1 ⟨rfl, h1, f1⟩
    have HR1 := hid h1
    have HF1 := hid f1
    clear h1 f1 H1
    go_wp2
    go_ret2
    exact ⟨by rw [HE.out.1, HE.out.2.1]; simp, by rw [HE.out.2.2]; exact HR1.out, HF1.out⟩
theorem e_findF {w : World} {base r : Nat} {v : Value} {c : Ct} (h : Rc w base r v c) {b : Int} (b0 : 0 ≤ b) (b1 : b ≤ 18446744073709551615) (q : Int) : Calls Tryd.prog 16 #[.pointer (some ⟨r, 0, none⟩), .int .u64 b, .int .i64 q] w fun e w' => e = .returned (.tuple #[.int .i64 (fiV c b q), .int .i64 (fiE c b q)]) ∧ Fr (fun _ => False) w w' := by
  have H1 := hid (e_find h b0 b1)
  cases hl : look c b with
  | none =>
    have HE : Hid (fiV c b q = 0 ∧ fiE c b q = 5) := by unfold Hid fiV fiE; rw [hl]; exact ⟨rfl, rfl⟩
    rw [hl] at H1
    unfold slV at H1
    clear h hl
    go_enter Tryd.func16, Tryd.ntmps16
    go_wp2_with fail
    refine H1.out.mono ?_
    rintro e w1 ⟨rfl, f1⟩
    have HF1 := hid f1
    clear f1 H1
    go_wp2
    go_ret2
    exact ⟨by rw [HE.out.1, HE.out.2]; simp, HF1.out.alloc _⟩
  | some x =>
    have hx := (h.ok.kr x (look_mem hl).1).1
    have hxr : 1 ≤ x.r ∧ x.r ≤ 7 := hx.2.2.1
    rw [hl] at H1
    unfold slV at H1
    have HB := hid fun w1 => Sb.new w1 c.T x
    by_cases hq : 0 ≤ q ∧ q ≤ 7
    · have H2 := hid fun w => e_has x.r q (by omega) hq w
      cases hs : sub x.r q with
      | true =>
        have HE : Hid (fiV c b q = x.a ∧ fiE c b q = 0) := by
          unfold Hid fiV fiE; rw [hl]
          exact ⟨if_pos ⟨hq, hs⟩, if_pos ⟨hq, hs⟩⟩
        rw [hs] at H2
        obtain ⟨q0, q1⟩ := hq
        clear h hl hx hs
        go_enter Tryd.func16, Tryd.ntmps16
        go_wp2_with fail
        refine H1.out.mono ?_
        rintro e w1 ⟨rfl, f1⟩
        have HF1 := hid f1
        have y2 := (HB.out w1).c2
        have y4 := (HB.out w1).c4
        clear f1 H1
        go_wp2_with fail
        refine (H2.out _).mono ?_
        rintro e w2 ⟨rfl, hw⟩
        obtain rfl := hw.symm
        clear hw
        go_wp2
        go_ret2
        exact ⟨by rw [HE.out.1, HE.out.2]; simp, HF1.out.alloc _⟩
      | false =>
        have HE : Hid (fiV c b q = 0 ∧ fiE c b q = 5) := by
          unfold Hid fiV fiE; rw [hl]
          exact ⟨if_neg (fun h => by have := h.2; rw [hs] at this; cases this), if_neg (fun h => by have := h.2; rw [hs] at this; cases this)⟩
        rw [hs] at H2
        obtain ⟨q0, q1⟩ := hq
        clear h hl hx hs
        go_enter Tryd.func16, Tryd.ntmps16
        go_wp2_with fail
        refine H1.out.mono ?_
        rintro e w1 ⟨rfl, f1⟩
        have HF1 := hid f1
        have y2 := (HB.out w1).c2
        have y4 := (HB.out w1).c4
        clear f1 H1
        go_wp2_with fail
        refine (H2.out _).mono ?_
        rintro e w2 ⟨rfl, hw⟩
        obtain rfl := hw.symm
        clear hw
        go_wp2
        go_ret2
        exact ⟨by rw [HE.out.1, HE.out.2]; simp, HF1.out.alloc _⟩
    · have HE : Hid (fiV c b q = 0 ∧ fiE c b q = 5) := by
        unfold Hid fiV fiE; rw [hl]
        exact ⟨if_neg (fun h => hq h.1), if_neg (fun h => hq h.1)⟩
      clear h hl hx
      by_cases q0 : 0 ≤ q
      · have q1 : ¬ q ≤ 7 := fun h => hq ⟨q0, h⟩
        clear hq
        go_enter Tryd.func16, Tryd.ntmps16
        go_wp2_with fail
        refine H1.out.mono ?_
        rintro e w1 ⟨rfl, f1⟩
        have HF1 := hid f1
        clear f1 H1
        go_wp2
        go_ret2
        exact ⟨by rw [HE.out.1, HE.out.2]; simp, HF1.out.alloc _⟩
      · clear hq
        go_enter Tryd.func16, Tryd.ntmps16
        go_wp2_with fail
        refine H1.out.mono ?_
        rintro e w1 ⟨rfl, f1⟩
        have HF1 := hid f1
        clear f1 H1
        go_wp2
        go_ret2
        exact ⟨by rw [HE.out.1, HE.out.2]; simp, HF1.out.alloc _⟩
theorem e_restrict {w : World} {base r : Nat} {v : Value} {c : Ct} (h : Rc w base r v c) {b : Int} (b0 : 0 ≤ b) (b1 : b ≤ 18446744073709551615) (q : Int) : Calls Tryd.prog 18 #[.pointer (some ⟨r, 0, none⟩), .int .u64 b, .int .i64 q] w fun e w' => e = .returned (.tuple #[.int .u64 (reV c b q), .int .i64 (reE c b q)]) ∧ (∃ v', Rc w' base r v' (reS c b q) ∧ Fv w v v') ∧ Fr (fun i => i = r) w w' := by
  have H1 := hid (e_find h b0 b1)
  have HR := hid h
  cases hl : look c b with
  | none =>
    have HE : Hid (reV c b q = 0 ∧ reE c b q = 5 ∧ reS c b q = c) := by unfold Hid reV reE reS; rw [hl]; exact ⟨rfl, rfl, rfl⟩
    rw [hl] at H1
    unfold slV at H1
    clear h hl
    go_enter Tryd.func18, Tryd.ntmps18
    go_wp2_with fail
    refine H1.out.mono ?_
    rintro e w1 ⟨rfl, f1⟩
    have HF1 := hid f1
    clear f1 H1
    go_wp2
    go_ret2
    exact ⟨by rw [HE.out.1, HE.out.2.1]; simp, ⟨_, by rw [HE.out.2.2]; exact HR.out.kept (HF1.out.alloc _), .inl rfl⟩, (HF1.out.alloc _).mono fun _ _ e => e.elim⟩
  | some x =>
    have hx := h.ok.kr x (look_mem hl).1
    have hxr : 1 ≤ x.r ∧ x.r ≤ 7 := hx.1.2.2.1
    have hxa := hx.2.2
    rw [hl] at H1
    unfold slV at H1
    have HB := hid fun w1 => Sb.new w1 c.T x
    by_cases hq : 1 ≤ q ∧ q ≤ 7
    · have H2 := hid fun w => e_has x.r q (by omega) (by omega) w
      cases hs : sub x.r q with
      | true =>
        have HE : Hid (reV c b q = plV c 4096 4160 q ∧ reE c b q = plE c 4096 4160 ∧ reS c b q = plS c 4096 4160 q x.a) := by
          unfold Hid reV reE reS; rw [hl]
          simp only [if_pos hq, hs, if_true]
          exact ⟨trivial, trivial, trivial⟩
        have H3 := hid fun (w1 : World) (f : Fr (fun _ => False) w w1) => e_put (HR.out.kept f) (lo := 4096) (hi := 4160) (a := x.a) (rr := q) (by omega) (by omega) (by omega) hq hxa
        rw [hs] at H2
        obtain ⟨q0, q1⟩ := hq
        clear h hl hx hs
        generalize plV c 4096 4160 q = pv at *
        generalize plE c 4096 4160 = pe at *
        generalize plS c 4096 4160 q x.a = ps at *
        go_enter Tryd.func18, Tryd.ntmps18
        go_wp2_with fail
        refine H1.out.mono ?_
        rintro e w1 ⟨rfl, f1⟩
        have HF1 := hid (Fr.alloc f1 (.cells #[.int .i64 c.T, .int .i64 x.s, .int .i64 x.r, .int .i64 x.n, .int .i64 x.a] 75))
        have y2 := (HB.out w1).c2
        have y4 := (HB.out w1).c4
        clear f1 H1
        go_wp2_with fail
        refine (H2.out _).mono ?_
        rintro e w2 ⟨rfl, hw⟩
        obtain rfl := hw.symm
        clear hw
        go_wp2_with fail
        refine (H3.out _ HF1.out).mono ?_
        rintro e w3 ⟨rfl, ⟨v3, h3, hv3⟩, f3⟩
        have HR3 : Hid (∃ v', Rc w3 base r v' ps ∧ Fv w v v') := ⟨v3, h3, by
          rcases hv3 with e | e
          · exact .inl e
          · exact .inr fun q hq => Nat.le_trans HF1.out.size (e q hq)⟩
        clear hv3
        have HF3 := hid (Fr.trans (HF1.out.mono fun _ _ e => e.elim) f3)
        clear h3 f3
        go_wp2
        go_ret2
        exact ⟨by rw [HE.out.1, HE.out.2.1]; simp, by rw [HE.out.2.2]; exact HR3.out, HF3.out⟩
      | false =>
        have HE : Hid (reV c b q = 0 ∧ reE c b q = 5 ∧ reS c b q = c) := by
          unfold Hid reV reE reS; rw [hl]
          simp only [if_pos hq, hs]
          exact ⟨rfl, rfl, rfl⟩
        rw [hs] at H2
        obtain ⟨q0, q1⟩ := hq
        clear h hl hx hs
        go_enter Tryd.func18, Tryd.ntmps18
        go_wp2_with fail
        refine H1.out.mono ?_
        rintro e w1 ⟨rfl, f1⟩
        have HF1 := hid f1
        have y2 := (HB.out w1).c2
        have y4 := (HB.out w1).c4
        clear f1 H1
        go_wp2_with fail
        refine (H2.out _).mono ?_
        rintro e w2 ⟨rfl, hw⟩
        obtain rfl := hw.symm
        clear hw
        go_wp2
        go_ret2
        exact ⟨by rw [HE.out.1, HE.out.2.1]; simp, ⟨_, by rw [HE.out.2.2]; exact HR.out.kept (HF1.out.alloc _), .inl rfl⟩, (HF1.out.alloc _).mono fun _ _ e => e.elim⟩
    · have HE : Hid (reV c b q = 0 ∧ reE c b q = 2 ∧ reS c b q = c) := by
        unfold Hid reV reE reS; rw [hl]
        simp only [if_neg hq]
        exact ⟨trivial, trivial, trivial⟩
      clear h hl hx
      by_cases q0 : 1 ≤ q
      · have q1 : ¬ q ≤ 7 := fun h => hq ⟨q0, h⟩
        clear hq
        go_enter Tryd.func18, Tryd.ntmps18
        go_wp2_with fail
        refine H1.out.mono ?_
        rintro e w1 ⟨rfl, f1⟩
        have HF1 := hid f1
        clear f1 H1
        go_wp2
        go_ret2
        exact ⟨by rw [HE.out.1, HE.out.2.1]; simp, ⟨_, by rw [HE.out.2.2]; exact HR.out.kept (HF1.out.alloc _), .inl rfl⟩, (HF1.out.alloc _).mono fun _ _ e => e.elim⟩
      · clear hq
        go_enter Tryd.func18, Tryd.ntmps18
        go_wp2_with fail
        refine H1.out.mono ?_
        rintro e w1 ⟨rfl, f1⟩
        have HF1 := hid f1
        clear f1 H1
        go_wp2
        go_ret2
        exact ⟨by rw [HE.out.1, HE.out.2.1]; simp, ⟨_, by rw [HE.out.2.2]; exact HR.out.kept (HF1.out.alloc _), .inl rfl⟩, (HF1.out.alloc _).mono fun _ _ e => e.elim⟩
theorem filter_take {p : Sl → Bool} {l : List Sl} {j : Nat} (h : j < l.length) : (l.take (j + 1)).filter p = (l.take j).filter p ++ (if p l[j] then [l[j]] else []) := by
  rw [List.take_add_one, List.getElem?_eq_getElem h, List.filter_append]
  cases hp : p l[j] <;> simp [hp]
theorem row_form {w : World} {base : Nat} {e : TypeId} {size : Nat} {y : Value} {n : Nat} {xs : List Value} (h : w.ownsRow base e size y n xs) : ∃ yad ycap, y = .slice yad n ycap := by
  rcases h.2 with ⟨e1, e2⟩ | ⟨g, cap, cur, e1, hb, _⟩
  · exact ⟨none, 0, by rw [e2]; exact e1⟩
  · exact ⟨_, _, e1⟩
set_option maxHeartbeats 1000000 in
theorem e_revoke {w : World} {base r : Nat} {v : Value} {c : Ct} (h : Rc w base r v c) (a : Int) : Calls Tryd.prog 20 #[.pointer (some ⟨r, 0, none⟩), .int .i64 a] w fun e w' => e = .returned (.int .i64 (rvN c a : Int)) ∧ (∃ v', Rc w' base r v' (rvS c a) ∧ Fv w v v') ∧ Fr (fun i => i = r) w w' := by
  have HR := hid h
  have hlen := h.ok.len
  have hrl := h.ltr
  obtain ⟨ad, cap, rfl, hcap, hg, hn⟩ := h.form
  clear h hg hn
  go_enter Tryd.func20, Tryd.ntmps20
  go_wp2
  go_loopw [5, 6] (fun y i wr => ∃ j : Nat, j ≤ c.L.length ∧ i = .int .i64 j ∧ wr.ownsRow w.heap.size 75 5 y ((c.L.take j).filter fun x => decide (x.a ≠ a)).length (sc c.T ((c.L.take j).filter fun x => decide (x.a ≠ a))) ∧ Fr (fun x => w.heap.size ≤ x) w wr) (fun _ i _ => c.L.length - (intOf i).toNat)
  case atStart => exact ⟨0, by omega, rfl, World.ownsRow_nil _ _ _ _, Fr.refl _ _⟩
  case round =>
    obtain ⟨j, hj, rfl, ho, hf⟩ := hrel
    have HO := hid ho
    have HF := hid hf
    clear ho hf
    have HRr := hid (HR.out.kept HF.out.new)
    have c2 := HRr.out.c2
    have hsz := HF.out.size
    by_cases hlt : j < c.L.length
    · obtain ⟨g, cap', e, x0, x1, x2, x3, x4⟩ := HRr.out.cells j hlt
      simp only [Value.slice.injEq] at e
      obtain ⟨rfl, _, rfl⟩ := e
      have hst := filter_take (p := fun x => decide (x.a ≠ a)) hlt
      have hfl : ((c.L.take j).filter fun x => decide (x.a ≠ a)).length ≤ 4160 := Nat.le_trans (List.length_filter_le _ _) (by rw [List.length_take]; omega)
      by_cases hx : c.L[j].a = a
      · have HST : Hid ((c.L.take (j + 1)).filter (fun x => decide (x.a ≠ a)) = (c.L.take j).filter fun x => decide (x.a ≠ a)) := by
          show _ = _
          rw [hst]; simp [hx]
        clear hst
        generalize (c.L.take j).filter (fun x => decide (x.a ≠ a)) = D at *
        have hb : (c.L[j].a == a) = true := by simpa using hx
        clear hx
        generalize c.L[j].s = xs at *
        generalize c.L[j].r = xr at *
        generalize c.L[j].n = xn at *
        generalize c.L[j].a = xa at *
        go_wp2
        go_roundw
        case rel => exact ⟨j + 1, by omega, by go_num, by rw [HST.out]; exact HO.out, HF.out⟩
        case measure => simp [intOf]; omega
      · have HST : Hid ((c.L.take (j + 1)).filter (fun x => decide (x.a ≠ a)) = (c.L.take j).filter (fun x => decide (x.a ≠ a)) ++ [⟨c.L[j].s, c.L[j].r, c.L[j].n, c.L[j].a⟩]) := by
          show _ = _
          rw [hst]; simp [hx]
        clear hst
        generalize (c.L.take j).filter (fun x => decide (x.a ≠ a)) = D at *
        have hb : (c.L[j].a == a) = false := by simpa using hx
        clear hx
        generalize c.L[j].s = xs at *
        generalize c.L[j].r = xr at *
        generalize c.L[j].n = xn at *
        generalize c.L[j].a = xa at *
        go_wp2_with (at_builtin; refine wpList_slots (M := [⟨xs, xr, xn, xa⟩]) rfl (.tmp 27) (.tmp 35) rfl (HO.out.alloc _) (.inr (by simp)) 1 (slots_one (heap_alloc_new _ _)) (by simp; omega) (by simp; omega) rfl rfl ?_; intro g2 cap2 w2 ho2 hf2 hs2; have HO2 := hid ho2; have HF2 : Hid (Fr (fun x => w.heap.size ≤ x) w w2) := (HF.out.alloc _).trans' hf2 (fun i hi e => (HO.out.lt i e).1); clear ho2 hf2 hs2)
        go_roundw
        case rel => exact ⟨j + 1, by omega, by go_num, by rw [HST.out]; exact HO2.out, HF2.out⟩
        case measure => simp [intOf]; omega
    · obtain rfl : j = c.L.length := by omega
      rw [List.take_length] at HO
      have HO' : Hid (wr.ownsRow w.heap.size 75 5 _ (rvS c a).L.length (sc c.T (rvS c a).L)) := HO.out
      clear HO
      have HO := HO'
      clear HO'
      obtain ⟨yad, ycap, rfl⟩ := row_form HO.out
      have hfl : (rvS c a).L.length ≤ c.L.length := List.length_filter_le _ _
      have hsub : ((rvN c a : Nat) : Int) = (c.L.length : Int) - ((rvS c a).L.length : Int) := by unfold rvN rvS at *; simp only at *; omega
      have HSB := hid hsub
      clear hsub
      have f2 := HRr.out.fz 2
      have HR2 : Hid (Rc (wr.setCell ⟨r, 2, none⟩ (.slice yad (rvS c a).L.length ycap)) base r (.slice yad (rvS c a).L.length ycap) (rvS c a)) := by
        refine ⟨?_, ?_, fun e => ?_, rvS_ok HR.out.ok a, Nat.le_trans hfl (by omega), HR.out.lo⟩
        · rw [heap_setCell_same wr r 2 _ _ _ HRr.out.st]; rfl
        · refine own_carry (S := fun x => x = r) (own_low HO.out (by have := HR.out.lo; omega)) (Fr.setCell (S := fun x => x = r) (p := ⟨r, 2, none⟩) (Fr.refl _ _) rfl _) (fun x hx e => by have := (HO.out.lt x hx).1; omega)
        · have := (HO.out.lt r e).1; omega
      have HF2 : Hid (Fr (fun x => x = r) w (wr.setCell ⟨r, 2, none⟩ (.slice yad (rvS c a).L.length ycap))) := Fr.setCell (S := fun x => x = r) (p := ⟨r, 2, none⟩) (HF.out.new.mono fun _ _ e => e.elim) rfl _
      have HV2 : Hid (∀ q, (Value.slice yad (rvS c a).L.length ycap).ownBlock = some q → w.heap.size ≤ q) := fun q e => (HO.out.lt q e).1
      generalize (rvS c a).L.length = n2 at *
      go_wp2
      go_ret
      exact ⟨by rw [HSB.out]; go_num, ⟨_, HR2.out, .inr HV2.out⟩, HF2.out⟩
end Go.Proofs.YtcleheapfgapaaaDoor
