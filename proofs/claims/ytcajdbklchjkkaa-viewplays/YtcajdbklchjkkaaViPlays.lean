/-
  In every order of calls local bytes are read and written as the document says: the walk of the law ViewPlays.
-/
import Derived.Test.YtcajdbklchjkkaaViDone
namespace Go.Proofs.Ytcajdbklchjkkaa
open Go.RowKit
open An

/-- Things side by side, in another order. -/
theorem Things.perm {W w : World} {ts ts' : List (World → (Nat → Prop) → Prop)} (h : Things W w ts) (f g : Nat → Nat) (hf : ∀ j, j < ts.length → f j < ts'.length ∧ g (f j) = j) (hg : ∀ j, j < ts'.length → g j < ts.length ∧ f (g j) = j ∧ ts'[j]? = ts[g j]?) : Things W w ts' := by
  obtain ⟨o, h1, h2, h3, h4⟩ := h
  have key : ∀ i, o i ≠ 0 → (if o i = 0 then 0 else f (o i - 1) + 1) = f (o i - 1) + 1 := fun i hi => if_neg hi
  refine ⟨fun i => if o i = 0 then 0 else f (o i - 1) + 1, ⟨h1.nw, fun i hi => h1.dom i fun e => hi (if_pos e)⟩, fun i => ?_, fun P hP => ?_, fun j P hj => ?_⟩
  · by_cases e : o i = 0
    · simp [e]
    · simp only [key i e]
      have := h2 i
      have := (hf (o i - 1) (by omega)).1
      omega
  · obtain ⟨j, hj, rfl⟩ := List.getElem_of_mem hP
    have := (hg j hj).2.2
    rw [List.getElem?_eq_getElem hj] at this
    exact h3 _ (List.mem_of_getElem? this.symm)
  · have hjl := (List.getElem?_eq_some_iff.1 hj).1
    obtain ⟨g1, g2, g3⟩ := hg j hjl
    rw [hj] at g3
    refine (h3 P (List.mem_of_getElem? g3.symm)).mono (h4 (g j) P g3.symm) (fun i hi => ?_) (fun i hi => ?_)
    · show (if o i = 0 then 0 else f (o i - 1) + 1) = j + 1
      unfold lab at hi
      rw [key i (by omega), hi]
      simp [g2]
    · have hi' : (if o i = 0 then 0 else f (o i - 1) + 1) = j + 1 := hi
      have : o i ≠ 0 := fun e => by rw [if_pos e] at hi'; omega
      exact (h1.dom i this).2
def pf : Nat → Nat
  | 0 => 1
  | 1 => 3
  | 2 => 4
  | 3 => 0
  | _ => 2
def pg : Nat → Nat
  | 0 => 3
  | 1 => 0
  | 2 => 4
  | 3 => 1
  | _ => 2
/-- The document's touches. -/
theorem Things.arT {W w : World} {ts : List (World → (Nat → Prop) → Prop)} {b : Nat} {bs : List UInt8} {ss : List Sp} (h : Things W w ts) (i : Nat) (hi : ts[i]? = some (Am 51 b bs ss)) : ∃ ad cap, w.cell? ⟨b, 1, none⟩ = some (.slice ad ss.length cap) ∧ SpAt w ad ss := by
  obtain ⟨U, ⟨B, b', v, h, _⟩, _⟩ := h.get i hi
  have hr := h.tr
  rcases hr.2 with ⟨e1, e2⟩ | ⟨g, cap', cur, e1, hb, hc, _⟩
  · refine ⟨none, 0, by rw [h.c1, e1, e2], fun j hj => by omega⟩
  · refine ⟨some ⟨g, 0, none⟩, cap', by rw [h.c1, e1], fun j hj => ?_⟩
    obtain ⟨a0, a1, a2⟩ := spcs_at ss j hj
    have hcell : ∀ j u, (spcs ss)[j]? = some u → w.cell? ⟨g, j, none⟩ = some u := fun j u hu => by
      have := hr.cells (g := g) (by rw [e1]; rfl) j u hu
      rwa [add_plain, Nat.zero_add] at this
    refine ⟨g, 0, rfl, (Array.getElem?_eq_some_iff.1 hc).1, ?_, ?_, ?_⟩
    · rw [Nat.zero_add]; exact hcell _ _ a0
    · rw [Nat.zero_add]; exact hcell _ _ a1
    · rw [Nat.zero_add]; exact hcell _ _ a2
theorem Things.five {W w : World} {A B C D E : World → (Nat → Prop) → Prop} (h : Things W w [A, B, C, D, E]) : Things W w [D, A, E, B, C] :=
  h.perm pf pg (fun j hj => by
    have : j < 5 := hj
    rcases (by omega : j = 0 ∨ j = 1 ∨ j = 2 ∨ j = 3 ∨ j = 4) with rfl | rfl | rfl | rfl | rfl <;> exact ⟨by simp [pf], rfl⟩) (fun j hj => by
    have : j < 5 := hj
    rcases (by omega : j = 0 ∨ j = 1 ∨ j = 2 ∨ j = 3 ∨ j = 4) with rfl | rfl | rfl | rfl | rfl <;> exact ⟨by simp [pg], rfl, rfl⟩)
set_option maxRecDepth 20000 in
set_option maxHeartbeats 4000000 in
theorem plays_walk (sz : Int) (sc : Value) (w : World) (hc : ∃ ad cap l, sc = .slice ad (List.length l) cap ∧ OpsAtV w ad l ∧ l.length ≤ maxLen) : Calls Try.prog 3 #[.int .i64 sz, sc] w fun e w' => e = .returned (.bool true) ∧ Fr (fun _ => False) w w' := by
  obtain ⟨ad2, cap2, l2, rfl, hops2, hmax2⟩ := hc
  have HO2 := hid hops2
  have HL : Hid (∀ w1, Fr (fun _ => False) w w1 → Calls Try.prog 12 #[.slice ad2 l2.length cap2] w1 fun e w' => LongR l2 e ∧ Fr (fun _ => False) w1 w') := fun w1 f => long_any (hops2.fr f) hmax2
  have HA := hid awake_any
  obtain ⟨N, hN, hz⟩ : ∃ N : Nat, N < 8192 ∧ wrap64 ((IntKind.u64.wrap sz).tmod 8192) = (N : Int) := by
    have h0 : 0 ≤ IntKind.u64.wrap sz := by rw [IntKind.wrap_u64]; omega
    have h1 := Int.emod_nonneg (IntKind.u64.wrap sz) (b := 8192) (by decide)
    have h2 := Int.emod_lt_of_pos (IntKind.u64.wrap sz) (b := 8192) (by decide)
    refine ⟨((IntKind.u64.wrap sz) % 8192).toNat, by omega, ?_⟩
    rw [Int.tmod_eq_emod_of_nonneg h0]
    unfold wrap64
    omega
  have HNT : Hid (Calls Try.prog 8 #[] w fun e w' => ∃ t, e = .returned (.pointer (some ⟨t, 0, none⟩)) ∧ Things w w' [Tm t []]) := g_new (Things.start (Nw.start w))
  clear hops2 hmax2
  go_enter Try.func3, Try.ntmps3
  go_wp2_with fail
  refine HNT.out.mono ?_
  rintro e w1 ⟨t, rfl, h1⟩
  have T2 : Hid (Things w ((w1.alloc (.cells #[.slice none 0 0] 30)).alloc (.cells #[.pointer none, .pointer (some ⟨t, 0, none⟩), .pointer none, .pointer (some ⟨w1.heap.size, 0, none⟩)] 34)) [Tm t [], Dt w.heap.size w1.heap.size [], Blk (w1.heap.size + 1) (.cells #[.pointer none, .pointer (some ⟨t, 0, none⟩), .pointer none, .pointer (some ⟨w1.heap.size, 0, none⟩)] 34 (0, 0))]) := by
    have := (h1.dtNew).blk (.cells #[.pointer none, .pointer (some ⟨t, 0, none⟩), .pointer none, .pointer (some ⟨w1.heap.size, 0, none⟩)] 34 (0, 0))
    rw [World.size_alloc] at this
    exact this
  clear h1 HNT
  have HNA : Hid (∀ w0 ts, Things w w0 ts → Calls Try.prog 9 #[.int .i64 N] w0 fun e w' => ∃ a, e = .returned (.tuple #[.pointer (some ⟨a, 0, none⟩), .int .i64 0]) ∧ Things w w' (ts ++ [Am 77 a (List.replicate N 0) []])) := fun w0 ts h => ga_new h N (by omega)
  have HNR : Hid (∀ w0 ts, Things w w0 ts → Calls Try.prog 10 #[.int .i64 N] w0 fun e w' => ∃ a, e = .returned (.tuple #[.pointer (some ⟨a, 0, none⟩), .int .i64 0]) ∧ Things w w' (ts ++ [Am 51 a (List.replicate N 0) []])) := fun w0 ts h => (rm_new N w0 (by omega)).mono fun e w' ⟨a, Z, he, hm, hz, f⟩ => ⟨a, he, h.more (Am.good _ _ _ _) hm f fun i hi => ⟨hz i hi, hm.lt i hi⟩⟩
  go_wp2_with fail
  refine (HNA.out _ _ T2.out).mono ?_
  rintro e w3 ⟨a, rfl, h3⟩
  have h4 := h3.setAt 2 rfl 0 (.pointer (some ⟨a, 0, none⟩))
  have T4 : Hid (Things w (w3.setCell ⟨w1.heap.size + 1, 0, none⟩ (.pointer (some ⟨a, 0, none⟩))) [Tm t [], Dt w.heap.size w1.heap.size [], Blk (w1.heap.size + 1) (.cells #[.pointer (some ⟨a, 0, none⟩), .pointer (some ⟨t, 0, none⟩), .pointer none, .pointer (some ⟨w1.heap.size, 0, none⟩)] 34 (0, 0)), Am 77 a (List.replicate N 0) []]) := h4
  have k3 := h3.cells 2 rfl
  have z0 : w3.cell? ⟨w1.heap.size + 1, 0, none⟩ = some (.pointer none) := by simp [World.cell?, k3]
  have y0 : ∀ k, w3.frozen? ⟨w1.heap.size + 1, k, none⟩ = false := fun k => by simp [World.frozen?, k3]
  clear h3 h4 k3 T2 HNA
  generalize w1.heap.size = q at *
  go_wp2_with fail
  refine (HNR.out _ _ T4.out).mono ?_
  rintro e w5 ⟨b, rfl, h5⟩
  have h6 := h5.setAt 2 rfl 2 (.pointer (some ⟨b, 0, none⟩))
  have T6 : Hid (Things w (w5.setCell ⟨q + 1, 2, none⟩ (.pointer (some ⟨b, 0, none⟩))) [Tm t [], Dt w.heap.size q [], Blk (q + 1) (.cells #[.pointer (some ⟨a, 0, none⟩), .pointer (some ⟨t, 0, none⟩), .pointer (some ⟨b, 0, none⟩), .pointer (some ⟨q, 0, none⟩)] 34 (0, 0)), Am 77 a (List.replicate N 0) [], Am 51 b (List.replicate N 0) []]) := h6
  have k5 := h5.cells 2 rfl
  have z2 : w5.cell? ⟨q + 1, 2, none⟩ = some (.pointer none) := by simp [World.cell?, k5]
  have y2 : ∀ k, w5.frozen? ⟨q + 1, k, none⟩ = false := fun k => by simp [World.frozen?, k5]
  have T7 : Hid (Things w _ (Five16 a t b w.heap.size q (q + 1) (List.replicate N 0) [] [])) := T6.out.five
  clear h5 h6 k5 T4 T6 HNR z0 y0
  generalize q + 1 = X at *
  go_wp2_with fail
  refine (HA.out _).mono ?_
  rintro e w7 ⟨rfl, f7⟩
  have T8 := hid (T7.out.kept f7)
  clear f7 T7 z2 y2
  go_wp2_with fail
  refine (HL.out _ T8.out.nw.fr).mono ?_
  rintro e w8 ⟨⟨bb, rfl, hsh⟩, f8⟩
  have T9 := hid (T8.out.kept f8)
  clear f8 T8 HL
  cases bb with
  | true =>
    clear hsh
    go_wp2_with fail
    refine (HA.out _).mono ?_
    rintro e w9 ⟨rfl, f9⟩
    have F9 := hid (T9.out.nw.fr.trans f9)
    clear f9 T9
    go_wp2
    go_ret
    exact ⟨by simp, F9.out⟩
  | false =>
  have HSH := hid (hsh rfl)
  have hl2 : l2.length ≤ 100 := HSH.out.1
  clear hsh HA
  go_wp2
  go_loopw [45] (fun i wr => ∃ (j : Nat) (bs : List UInt8) (ss : List Sp) (T : Tb), j ≤ l2.length ∧ i = .int .i64 j ∧ bs.length = N ∧ ss.length ≤ 72 * j ∧ T.length ≤ j ∧ Hid (TbOk T) ∧ Hid (Things w wr (Five16 a t b w.heap.size q X bs ss T))) (fun i _ => l2.length - (intOf i).toNat)
  case atStart => exact ⟨0, _, _, _, by omega, rfl, List.length_replicate, by simp, by simp, TbOk.none, T9⟩
  case round =>
    obtain ⟨j, bs, ss, T, hj, rfl, hbs, hss, hTl, OK, T10⟩ := hrel
    clear T9
    by_cases hlt : j < l2.length
    · obtain ⟨bb, off, rfl, hbb, hc1, hc2, hc3, hc4, hc5, hB⟩ := HO2.out.fr T10.out.nw.fr j hlt
      generalize hk : l2[j] = o at hc1 hc2 hc3 hc4 hc5 hB
      obtain ⟨kd, x, y, z, s⟩ := o
      simp only at hc1 hc2 hc3 hc4 hc5 hB
      have HS : Hid (s.size ≤ 16384) := by have := HSH.out.2 j hlt; rw [hk] at this; exact this
      have T11 := hid (T10.out.kept ((Fr.refl _ _).alloc (.cells #[.int .i64 kd, .int .i64 x, .int .i64 y, .int .i64 z, .string s] 43)))
      clear HO2 T10 HSH hk
      by_cases e1 : kd = 1
      · subst e1
        by_cases y8 : 8192 < y <;> by_cases z8 : 8192 < z
        · have dy : decide (8192 < y) = true := decide_eq_true y8
          have dz : decide (8192 < z) = true := decide_eq_true z8
          go_wp2
          go_roundw
          case rel => exact ⟨j + 1, bs, ss, T, by omega, by go_num, hbs, by omega, by omega, OK, T11⟩
          case measure => simp [intOf]; omega
        · have dy : decide (8192 < y) = true := decide_eq_true y8
          have dz : decide (8192 < z) = false := decide_eq_false z8
          go_wp2
          go_roundw
          case rel => exact ⟨j + 1, bs, ss, T, by omega, by go_num, hbs, by omega, by omega, OK, T11⟩
          case measure => simp [intOf]; omega
        · have dy : decide (8192 < y) = false := decide_eq_false y8
          have dz : decide (8192 < z) = true := decide_eq_true z8
          have HD := hid fun w0 (h0 : Things w w0 (Five16 a t b w.heap.size q X bs ss T)) => done_1 h0 OK.out hbs hN (by omega) (by omega) (s := s) (x := x) (y := y) (z := z) hB.2.1 hB.2.2.1 hB.2.2.2.1 (by omega)
          go_wp2_with fail
          refine (HD.out _ T11.out).mono ?_
          rintro e w12 ⟨rfl, h12⟩
          obtain ⟨bs', ss', T', q1, q2, q3, q4, h13⟩ := h12
          have T13 := hid h13
          have OK3 := hid q3
          clear h13 q3 T11 HD
          go_wp2
          go_roundw
          case rel => exact ⟨j + 1, bs', ss', T', by omega, by go_num, q1, by omega, by omega, OK3, T13⟩
          case measure => simp [intOf]; omega
        · have dy : decide (8192 < y) = false := decide_eq_false y8
          have dz : decide (8192 < z) = false := decide_eq_false z8
          have HD := hid fun w0 (h0 : Things w w0 (Five16 a t b w.heap.size q X bs ss T)) => done_1 h0 OK.out hbs hN (by omega) (by omega) (s := s) (x := x) (y := y) (z := z) hB.2.1 hB.2.2.1 hB.2.2.2.1 (by omega)
          go_wp2_with fail
          refine (HD.out _ T11.out).mono ?_
          rintro e w12 ⟨rfl, h12⟩
          obtain ⟨bs', ss', T', q1, q2, q3, q4, h13⟩ := h12
          have T13 := hid h13
          have OK3 := hid q3
          clear h13 q3 T11 HD
          go_wp2
          go_roundw
          case rel => exact ⟨j + 1, bs', ss', T', by omega, by go_num, q1, by omega, by omega, OK3, T13⟩
          case measure => simp [intOf]; omega
      by_cases e2 : kd = 2
      · subst e2
        by_cases y8 : 8192 < y <;> by_cases z8 : 8192 < z
        · have dy : decide (8192 < y) = true := decide_eq_true y8
          have dz : decide (8192 < z) = true := decide_eq_true z8
          have HD := hid fun w0 (h0 : Things w w0 (Five16 a t b w.heap.size q X bs ss T)) => done_2 h0 OK.out hbs hN (by omega) (by omega) (s := s) (x := x) (y := y) (z := z) hB.2.1 hB.2.2.1 hB.2.2.2.1 HS.out
          go_wp2_with fail
          refine (HD.out _ T11.out).mono ?_
          rintro e w12 ⟨rfl, h12⟩
          obtain ⟨bs', ss', T', q1, q2, q3, q4, h13⟩ := h12
          have T13 := hid h13
          have OK3 := hid q3
          clear h13 q3 T11 HD
          go_wp2
          go_roundw
          case rel => exact ⟨j + 1, bs', ss', T', by omega, by go_num, q1, by omega, by omega, OK3, T13⟩
          case measure => simp [intOf]; omega
        · have dy : decide (8192 < y) = true := decide_eq_true y8
          have dz : decide (8192 < z) = false := decide_eq_false z8
          have HD := hid fun w0 (h0 : Things w w0 (Five16 a t b w.heap.size q X bs ss T)) => done_2 h0 OK.out hbs hN (by omega) (by omega) (s := s) (x := x) (y := y) (z := z) hB.2.1 hB.2.2.1 hB.2.2.2.1 HS.out
          go_wp2_with fail
          refine (HD.out _ T11.out).mono ?_
          rintro e w12 ⟨rfl, h12⟩
          obtain ⟨bs', ss', T', q1, q2, q3, q4, h13⟩ := h12
          have T13 := hid h13
          have OK3 := hid q3
          clear h13 q3 T11 HD
          go_wp2
          go_roundw
          case rel => exact ⟨j + 1, bs', ss', T', by omega, by go_num, q1, by omega, by omega, OK3, T13⟩
          case measure => simp [intOf]; omega
        · have dy : decide (8192 < y) = false := decide_eq_false y8
          have dz : decide (8192 < z) = true := decide_eq_true z8
          have HD := hid fun w0 (h0 : Things w w0 (Five16 a t b w.heap.size q X bs ss T)) => done_2 h0 OK.out hbs hN (by omega) (by omega) (s := s) (x := x) (y := y) (z := z) hB.2.1 hB.2.2.1 hB.2.2.2.1 HS.out
          go_wp2_with fail
          refine (HD.out _ T11.out).mono ?_
          rintro e w12 ⟨rfl, h12⟩
          obtain ⟨bs', ss', T', q1, q2, q3, q4, h13⟩ := h12
          have T13 := hid h13
          have OK3 := hid q3
          clear h13 q3 T11 HD
          go_wp2
          go_roundw
          case rel => exact ⟨j + 1, bs', ss', T', by omega, by go_num, q1, by omega, by omega, OK3, T13⟩
          case measure => simp [intOf]; omega
        · have dy : decide (8192 < y) = false := decide_eq_false y8
          have dz : decide (8192 < z) = false := decide_eq_false z8
          have HD := hid fun w0 (h0 : Things w w0 (Five16 a t b w.heap.size q X bs ss T)) => done_2 h0 OK.out hbs hN (by omega) (by omega) (s := s) (x := x) (y := y) (z := z) hB.2.1 hB.2.2.1 hB.2.2.2.1 HS.out
          go_wp2_with fail
          refine (HD.out _ T11.out).mono ?_
          rintro e w12 ⟨rfl, h12⟩
          obtain ⟨bs', ss', T', q1, q2, q3, q4, h13⟩ := h12
          have T13 := hid h13
          have OK3 := hid q3
          clear h13 q3 T11 HD
          go_wp2
          go_roundw
          case rel => exact ⟨j + 1, bs', ss', T', by omega, by go_num, q1, by omega, by omega, OK3, T13⟩
          case measure => simp [intOf]; omega
      by_cases e3 : kd = 3
      · subst e3
        by_cases y8 : 8192 < y <;> by_cases z8 : 8192 < z
        · have dy : decide (8192 < y) = true := decide_eq_true y8
          have dz : decide (8192 < z) = true := decide_eq_true z8
          go_wp2
          go_roundw
          case rel => exact ⟨j + 1, bs, ss, T, by omega, by go_num, hbs, by omega, by omega, OK, T11⟩
          case measure => simp [intOf]; omega
        · have dy : decide (8192 < y) = true := decide_eq_true y8
          have dz : decide (8192 < z) = false := decide_eq_false z8
          go_wp2
          go_roundw
          case rel => exact ⟨j + 1, bs, ss, T, by omega, by go_num, hbs, by omega, by omega, OK, T11⟩
          case measure => simp [intOf]; omega
        · have dy : decide (8192 < y) = false := decide_eq_false y8
          have dz : decide (8192 < z) = true := decide_eq_true z8
          have HD := hid fun w0 (h0 : Things w w0 (Five16 a t b w.heap.size q X bs ss T)) => done_3 h0 OK.out hbs hN (by omega) (by omega) (s := s) (x := x) (y := y) (z := z) hB.2.1 hB.2.2.1 hB.2.2.2.1 (by omega)
          go_wp2_with fail
          refine (HD.out _ T11.out).mono ?_
          rintro e w12 ⟨rfl, h12⟩
          obtain ⟨bs', ss', T', q1, q2, q3, q4, h13⟩ := h12
          have T13 := hid h13
          have OK3 := hid q3
          clear h13 q3 T11 HD
          go_wp2
          go_roundw
          case rel => exact ⟨j + 1, bs', ss', T', by omega, by go_num, q1, by omega, by omega, OK3, T13⟩
          case measure => simp [intOf]; omega
        · have dy : decide (8192 < y) = false := decide_eq_false y8
          have dz : decide (8192 < z) = false := decide_eq_false z8
          have HD := hid fun w0 (h0 : Things w w0 (Five16 a t b w.heap.size q X bs ss T)) => done_3 h0 OK.out hbs hN (by omega) (by omega) (s := s) (x := x) (y := y) (z := z) hB.2.1 hB.2.2.1 hB.2.2.2.1 (by omega)
          go_wp2_with fail
          refine (HD.out _ T11.out).mono ?_
          rintro e w12 ⟨rfl, h12⟩
          obtain ⟨bs', ss', T', q1, q2, q3, q4, h13⟩ := h12
          have T13 := hid h13
          have OK3 := hid q3
          clear h13 q3 T11 HD
          go_wp2
          go_roundw
          case rel => exact ⟨j + 1, bs', ss', T', by omega, by go_num, q1, by omega, by omega, OK3, T13⟩
          case measure => simp [intOf]; omega
      by_cases e4 : kd = 4
      · subst e4
        by_cases y8 : 8192 < y <;> by_cases z8 : 8192 < z
        · have dy : decide (8192 < y) = true := decide_eq_true y8
          have dz : decide (8192 < z) = true := decide_eq_true z8
          go_wp2
          go_roundw
          case rel => exact ⟨j + 1, bs, ss, T, by omega, by go_num, hbs, by omega, by omega, OK, T11⟩
          case measure => simp [intOf]; omega
        · have dy : decide (8192 < y) = true := decide_eq_true y8
          have dz : decide (8192 < z) = false := decide_eq_false z8
          have HD := hid fun w0 (h0 : Things w w0 (Five16 a t b w.heap.size q X bs ss T)) => done_4 h0 OK.out hbs hN (by omega) (by omega) (s := s) (x := x) (y := y) (z := z) hB.2.1 hB.2.2.1 hB.2.2.2.1 (by omega)
          go_wp2_with fail
          refine (HD.out _ T11.out).mono ?_
          rintro e w12 ⟨rfl, h12⟩
          obtain ⟨bs', ss', T', q1, q2, q3, q4, h13⟩ := h12
          have T13 := hid h13
          have OK3 := hid q3
          clear h13 q3 T11 HD
          go_wp2
          go_roundw
          case rel => exact ⟨j + 1, bs', ss', T', by omega, by go_num, q1, by omega, by omega, OK3, T13⟩
          case measure => simp [intOf]; omega
        · have dy : decide (8192 < y) = false := decide_eq_false y8
          have dz : decide (8192 < z) = true := decide_eq_true z8
          go_wp2
          go_roundw
          case rel => exact ⟨j + 1, bs, ss, T, by omega, by go_num, hbs, by omega, by omega, OK, T11⟩
          case measure => simp [intOf]; omega
        · have dy : decide (8192 < y) = false := decide_eq_false y8
          have dz : decide (8192 < z) = false := decide_eq_false z8
          have HD := hid fun w0 (h0 : Things w w0 (Five16 a t b w.heap.size q X bs ss T)) => done_4 h0 OK.out hbs hN (by omega) (by omega) (s := s) (x := x) (y := y) (z := z) hB.2.1 hB.2.2.1 hB.2.2.2.1 (by omega)
          go_wp2_with fail
          refine (HD.out _ T11.out).mono ?_
          rintro e w12 ⟨rfl, h12⟩
          obtain ⟨bs', ss', T', q1, q2, q3, q4, h13⟩ := h12
          have T13 := hid h13
          have OK3 := hid q3
          clear h13 q3 T11 HD
          go_wp2
          go_roundw
          case rel => exact ⟨j + 1, bs', ss', T', by omega, by go_num, q1, by omega, by omega, OK3, T13⟩
          case measure => simp [intOf]; omega
      have n1 : (kd == 1) = false := by simpa using e1
      have n2 : (kd == 2) = false := by simpa using e2
      have n3 : (kd == 3) = false := by simpa using e3
      have n4 : (kd == 4) = false := by simpa using e4
      by_cases y8 : 8192 < y <;> by_cases z8 : 8192 < z
      · have dy : decide (8192 < y) = true := decide_eq_true y8
        have dz : decide (8192 < z) = true := decide_eq_true z8
        have HD := hid fun w0 (h0 : Things w w0 (Five16 a t b w.heap.size q X bs ss T)) => done_5 h0 OK.out hbs hN (by omega) (by omega) (kd := kd) (s := s) (x := x) (y := y) (z := z) hB.2.1 hB.2.2.1 hB.2.2.2.1 e1 e2 e3 e4
        go_wp2_with fail
        refine (HD.out _ T11.out).mono ?_
        rintro e w12 ⟨rfl, h12⟩
        obtain ⟨bs', ss', T', q1, q2, q3, q4, h13⟩ := h12
        have T13 := hid h13
        have OK3 := hid q3
        clear h13 q3 T11 HD
        go_wp2
        go_roundw
        case rel => exact ⟨j + 1, bs', ss', T', by omega, by go_num, q1, by omega, by omega, OK3, T13⟩
        case measure => simp [intOf]; omega
      · have dy : decide (8192 < y) = true := decide_eq_true y8
        have dz : decide (8192 < z) = false := decide_eq_false z8
        have HD := hid fun w0 (h0 : Things w w0 (Five16 a t b w.heap.size q X bs ss T)) => done_5 h0 OK.out hbs hN (by omega) (by omega) (kd := kd) (s := s) (x := x) (y := y) (z := z) hB.2.1 hB.2.2.1 hB.2.2.2.1 e1 e2 e3 e4
        go_wp2_with fail
        refine (HD.out _ T11.out).mono ?_
        rintro e w12 ⟨rfl, h12⟩
        obtain ⟨bs', ss', T', q1, q2, q3, q4, h13⟩ := h12
        have T13 := hid h13
        have OK3 := hid q3
        clear h13 q3 T11 HD
        go_wp2
        go_roundw
        case rel => exact ⟨j + 1, bs', ss', T', by omega, by go_num, q1, by omega, by omega, OK3, T13⟩
        case measure => simp [intOf]; omega
      · have dy : decide (8192 < y) = false := decide_eq_false y8
        have dz : decide (8192 < z) = true := decide_eq_true z8
        have HD := hid fun w0 (h0 : Things w w0 (Five16 a t b w.heap.size q X bs ss T)) => done_5 h0 OK.out hbs hN (by omega) (by omega) (kd := kd) (s := s) (x := x) (y := y) (z := z) hB.2.1 hB.2.2.1 hB.2.2.2.1 e1 e2 e3 e4
        go_wp2_with fail
        refine (HD.out _ T11.out).mono ?_
        rintro e w12 ⟨rfl, h12⟩
        obtain ⟨bs', ss', T', q1, q2, q3, q4, h13⟩ := h12
        have T13 := hid h13
        have OK3 := hid q3
        clear h13 q3 T11 HD
        go_wp2
        go_roundw
        case rel => exact ⟨j + 1, bs', ss', T', by omega, by go_num, q1, by omega, by omega, OK3, T13⟩
        case measure => simp [intOf]; omega
      · have dy : decide (8192 < y) = false := decide_eq_false y8
        have dz : decide (8192 < z) = false := decide_eq_false z8
        have HD := hid fun w0 (h0 : Things w w0 (Five16 a t b w.heap.size q X bs ss T)) => done_5 h0 OK.out hbs hN (by omega) (by omega) (kd := kd) (s := s) (x := x) (y := y) (z := z) hB.2.1 hB.2.2.1 hB.2.2.2.1 e1 e2 e3 e4
        go_wp2_with fail
        refine (HD.out _ T11.out).mono ?_
        rintro e w12 ⟨rfl, h12⟩
        obtain ⟨bs', ss', T', q1, q2, q3, q4, h13⟩ := h12
        have T13 := hid h13
        have OK3 := hid q3
        clear h13 q3 T11 HD
        go_wp2
        go_roundw
        case rel => exact ⟨j + 1, bs', ss', T', by omega, by go_num, q1, by omega, by omega, OK3, T13⟩
        case measure => simp [intOf]; omega
    · obtain rfl : l2.length = j := by omega
      clear HO2 HSH hlt
      have HTO : Hid (∀ w0, Things w w0 (Five16 a t b w.heap.size q X bs ss T) → Calls Try.prog 14 #[.pointer (some ⟨a, 0, none⟩)] w0 fun e w' => ∃ ad cap, e = .returned (.slice ad ss.length cap) ∧ Things w w' (Five16 a t b w.heap.size q X bs ss T ++ [Sv ad ss])) := fun w0 h0 => ga_touched h0 0 rfl (by omega)
      obtain ⟨c0, _, _, _⟩ := five_cells T10.out
      go_wp2_with fail
      refine (HTO.out _ T10.out).mono ?_
      rintro e w11 ⟨ad3, cap3, rfl, h11⟩
      have T11 : Hid (Things w w11 [Am 77 a bs ss, Tm t T, Am 51 b bs ss, Dt w.heap.size q T, Blk X (.cells #[.pointer (some ⟨a, 0, none⟩), .pointer (some ⟨t, 0, none⟩), .pointer (some ⟨b, 0, none⟩), .pointer (some ⟨q, 0, none⟩)] 34 (0, 0)), Sv ad3 ss]) := h11
      have k11 := h11.cells 4 rfl
      have v0 : w11.cell? ⟨X, 0, none⟩ = some (.pointer (some ⟨a, 0, none⟩)) := by simp [World.cell?, k11]
      clear h11 k11 c0 T10 HTO
      have HRD := hid (ga_read T11.out 0 rfl 0 N (by omega) (by omega))
      go_wp2_with fail
      refine HRD.out.mono ?_
      rintro e w12 ⟨rfl, h12⟩
      have T12 : Hid (Things w w12 [Am 77 a bs (noted ss (0 : Nat) N false), Tm t T, Am 51 b bs ss, Dt w.heap.size q T, Blk X (.cells #[.pointer (some ⟨a, 0, none⟩), .pointer (some ⟨t, 0, none⟩), .pointer (some ⟨b, 0, none⟩), .pointer (some ⟨q, 0, none⟩)] 34 (0, 0)), Sv ad3 ss]) := h12
      have k12 := h12.cells 4 rfl
      have v2 : w12.cell? ⟨X, 2, none⟩ = some (.pointer (some ⟨b, 0, none⟩)) := by simp [World.cell?, k12]
      obtain ⟨bb, g0, hcv⟩ := T12.out.arB 2 rfl
      obtain ⟨ad4, cap4, g1, hs4⟩ := T12.out.arT 2 rfl
      have hs3 := T12.out.sps 5 rfl
      have HSM := hid (spans_same (c1 := cap3) (c2 := cap4) hs3 hs4 (by omega))
      have eb : (bs.drop 0).take N = bs := by rw [List.drop_zero, List.take_of_length_le (by omega)]
      rw [eb]
      rw [hbs] at g0 hcv
      clear h12 k12 v0 T11 HRD hs3 hs4 eb
      go_wp2_with fail
      refine HSM.out.mono ?_
      rintro e w13 ⟨rfl, f13⟩
      have F13 := hid (T12.out.nw.fr.trans f13)
      clear f13 T12 HSM
      go_wp2
      go_ret
      exact ⟨by simp, F13.out⟩
end Go.Proofs.Ytcajdbklchjkkaa
