/-
  What the view's Zero and Write do, piece by piece.
-/
import Derived.Test.YtcajdbklchjkkaaViCallsA
namespace Go.Proofs.Ytcajdbklchjkkaa
open Go.RowKit
open An

theorem noted_one {ss : List Sp} {p m : Int} (hm : 1 ≤ m) (b : Bool) : noted ss p m b = ss ++ [(p, m, b)] := if_pos (by omega)
/-- What lies in the box of a piece. -/
theorem spbx (w : World) (p m : Int) (b : Bool) : (w.alloc (.cells #[.int .i64 p, .int .i64 m, .bool b] 65)).cell? ⟨w.heap.size, 0, none⟩ = some (.int .i64 p) ∧ (w.alloc (.cells #[.int .i64 p, .int .i64 m, .bool b] 65)).cell? ⟨w.heap.size, 1, none⟩ = some (.int .i64 m) := ⟨by simp, by simp⟩
section
variable {W w w0 : World} {a t B j : Nat} {Z Y : Nat → Prop} {bs : List UInt8} {ss : List Sp} {T : Tb} {ts : List (World → (Nat → Prop) → Prop)}
set_option maxRecDepth 20000 in
set_option maxHeartbeats 1000000 in
theorem z_one (h : Things W w (Am 77 a bs ss :: ts)) (hB : (Am 77 a bs ss :: ts)[j]? = some (Blk B (abx a))) {p m : Int} (b : Bool) (hp : 0 ≤ p ∧ 1 ≤ m ∧ p + m ≤ bs.length) (hk : ss.length ≤ 1000000) : Calls Try.prog 46 #[.agg #[.int .i64 p, .int .i64 m, .bool b], .pointer (some ⟨B, 0, none⟩)] w fun e w' => e = .returned (.int .i64 0) ∧ Things W w' (Am 77 a (over bs p.toNat (List.replicate m.toNat 0)) (ss ++ [(p, m, true)]) :: ts) := by
  have H1 : Hid (∀ w1, Fr (fun _ => False) w w1 → Calls Try.prog 47 #[.pointer (some ⟨a, 0, none⟩), .int .i64 p, .int .i64 m] w1 fun e w' => e = .returned (.int .i64 0) ∧ Things W w' (Am 77 a (over bs p.toNat (List.replicate m.toNat 0)) (ss ++ [(p, m, true)]) :: ts)) := fun w1 f => (h.kept f).lift 0 rfl (Am.good _ _ _ _) fun U hU => by
    have := am_zero hU p.toNat m.toNat (by omega) hk
    rw [show ((p.toNat : Nat) : Int) = p by omega, show ((m.toNat : Nat) : Int) = m by omega, noted_one hp.2.1] at this
    exact this
  have hF : Fr (fun _ => False) w (w.alloc (.cells #[.int .i64 p, .int .i64 m, .bool b] 65)) := (Fr.refl _ _).alloc _
  have c0 := abxc ((h.kept hF).cells j hB)
  obtain ⟨c1, c2⟩ := spbx w p m b
  have HF := hid hF
  clear h hB hF hp
  generalize hwa : w.alloc (.cells #[.int .i64 p, .int .i64 m, .bool b] 65) = wa at *
  go_enter Try.func46, Try.ntmps46
  go_wp2_with fail
  refine (H1.out _ HF.out).mono ?_
  rintro e w1 ⟨rfl, h1⟩
  have T1 := hid h1
  clear h1 H1 c0 c1 c2
  go_wp2
  go_ret
  exact ⟨by simp, T1.out⟩
theorem z_all {O : World → (Nat → Prop) → Prop} {ad : Option Addr} {cap : Nat} {L : List Sq} (h : Things W w [Am 77 a bs ss, O, Blk B (abx a), Sv ad L]) (hap : Apt bs.length L) (hk : ss.length + L.length ≤ 1000000) (hc : L.length ≤ cap) : Calls Try.prog 38 #[.slice ad L.length cap, .func (.func 46) #[] #[.pointer (some ⟨B, 0, none⟩)]] w fun e w' => e = .returned (.int .i64 0) ∧ Things W w' [Am 77 a (zrB bs L) (ss ++ tch L true), O, Blk B (abx a), Sv ad L] := by
  refine (over_any (F := 46) (fun k w' => Things W w' [Am 77 a (zrB bs (L.take k)) (ss ++ tch (L.take k) true), O, Blk B (abx a), Sv ad L]) (fun _ _ => False) (fun k w' hi => hi.sps 3 rfl) hc (enters_of Try.func46 (by kernel_rfl) rfl) (fun k w' hk2 hi => ?_) (by simpa [zrB, tch] using h)).mono ?_
  · have hl := zrB_length (hap.take k)
    obtain ⟨p1, p2, p3, p4⟩ := hap.at hk2
    refine (z_one (ts := [O, Blk B (abx a), Sv ad L]) (j := 2) hi rfl (p := L[k].1) (m := L[k].2.1) L[k].2.2 (by rw [hl]; omega) (by simp only [List.length_append, tch_length, List.length_take]; omega)).mono ?_
    rintro e w2 ⟨rfl, h2⟩
    rw [← zrB_snoc hk2, List.append_assoc, ← tch_snoc hk2] at h2
    exact ⟨0, rfl, fun _ => h2, fun e => (e rfl).elim⟩
  · rintro e w' ⟨j, rfl, h1, h2⟩
    by_cases hj : j = 0
    · subst hj
      have := h1 rfl
      rw [List.take_length] at this
      exact ⟨rfl, this⟩
    · exact (h2 hj).elim
/-- Where nothing is done. -/
theorem am_nothing {w' : World} (h : Am 77 a bs ss w Z) (f : Fr (fun _ => False) w w') : ∃ Z', Am 77 a bs ss w' Z' ∧ Gw w w' Z Z' := ⟨Z, h.kept f, Gw.same h.lt (f.mono fun _ _ e => e.elim)⟩
/-- An arena, all else that was there, the box of the variable, and the pieces. -/
theorem v_begin (h : Am 77 a bs ss w Z) {w' : World} {ad : Option Addr} {L : List Sq} (hs : SpAt w' ad L) (hb : ∀ b off, ad = some ⟨b, off, none⟩ → 0 < L.length → (w.alloc (abx a)).heap.size ≤ b) (f : Fr (fun _ => False) (w.alloc (abx a)) w') : Things (Bare w) w' [Am 77 a bs ss, Old w Z, Blk w.heap.size (abx a), Sv ad L] :=
  ((Things.begin (Am.good _ _ _ _) h h.lt).blk (abx a)).moreSpans hs hb f
set_option maxRecDepth 20000 in
set_option maxHeartbeats 1000000 in
theorem v_zero (h : Am 77 a bs ss w Z) (k : Tm t T w Y) (_hd : ∀ i, Z i → ¬ Y i) (ok : TbOk T) {x n : Int} (hx : I64 x) (hn : I64 n) (hb : n ≤ 16384) (hk : ss.length ≤ 900000) : Calls Try.prog 22 #[.pointer (some ⟨a, 0, none⟩), .pointer (some ⟨t, 0, none⟩), .int .i64 x, .int .i64 n] w fun e w' => e = .returned (.int .i64 (vwE T bs.length x n)) ∧ ∃ Z', Am 77 a (vzB T bs x n) (vwT T bs.length ss x n) w' Z' ∧ Gw w w' Z Z' := by
  have hF : Fr (fun _ => False) w (w.alloc (abx a)) := (Fr.refl _ _).alloc _
  have H1 := hid (v_find (h.kept hF) (k.kept hF) ok hx hn)
  have HA := hid h
  have HF := hid hF
  obtain ⟨v1, v2, _⟩ := vwL_facts (N := bs.length) (x := x) ok hb
  have HV := hid (And.intro v1 v2)
  have c0 := abxc (heap_alloc_new w (abx a))
  clear h k ok hx hn hF v1 v2 hb
  by_cases hv : VwOk T bs.length x n
  · obtain ⟨e1, e2⟩ := vw_yes hv.1 hv.2
    have E : Hid (vwE T bs.length x n = 0 ∧ vzB T bs x n = zrB bs (piL T x n) ∧ vwT T bs.length ss x n = ss ++ tch (piL T x n) true) := ⟨e2, if_pos hv, if_pos hv⟩
    rw [e1] at HV
    rw [e1, e2] at H1
    clear hv e1 e2
    rw [E.out.1, E.out.2.1, E.out.2.2]
    clear E
    generalize piL T x n = L at *
    go_enter Try.func22, Try.ntmps22
    go_wp2_with fail
    refine H1.out.mono ?_
    rintro e w1 ⟨ad, cap, rfl, hs, hb, f1, hc⟩
    have H2 := hid (z_all (v_begin HA.out hs hb f1) HV.out.1 (by have := HV.out.2; omega) hc)
    clear hs hb f1 hc H1
    go_wp2_with fail
    refine H2.out.mono ?_
    rintro e w2 ⟨rfl, h2⟩
    have T2 := hid (h2.finish HA.out.lt)
    clear h2 H2
    go_wp2
    go_ret
    exact ⟨by simp, T2.out⟩
  · obtain ⟨e1, e2⟩ := vw_no hv
    have E : Hid (vwE T bs.length x n = 4 ∧ vzB T bs x n = bs ∧ vwT T bs.length ss x n = ss) := ⟨e2, if_neg hv, if_neg hv⟩
    rw [e1, e2] at H1
    clear hv e1 e2 HV
    rw [E.out.1, E.out.2.1, E.out.2.2]
    clear E
    go_enter Try.func22, Try.ntmps22
    go_wp2_with fail
    refine H1.out.mono ?_
    rintro e w1 ⟨ad, cap, rfl, hs, hb, f1, hc⟩
    have T2 := hid (am_nothing HA.out (HF.out.trans f1))
    clear hs hb f1 hc H1
    go_wp2
    go_ret
    exact ⟨by simp, T2.out⟩
end
end Go.Proofs.Ytcajdbklchjkkaa
