/-
  What the view's Write does, piece by piece.
-/
import Derived.Test.YtcajdbklchjkkaaViCallsB
namespace Go.Proofs.Ytcajdbklchjkkaa
open Go.RowKit
open An

/-- The box of the data that is left. -/
def dbx (s : ByteArray) : Obj := .cells #[.string s] 9 (0, 0)
theorem dbxc {w : World} {B : Nat} {s : ByteArray} (h : w.heap[B]? = some (dbx s)) : w.cell? ⟨B, 0, none⟩ = some (.string s) ∧ w.frozen? ⟨B, 0, none⟩ = false := by unfold dbx at h; simp [World.cell?, World.frozen?, h]
section
variable {W w w0 : World} {a t B D : Nat} {Z Y : Nat → Prop} {bs : List UInt8} {ss : List Sp} {T : Tb} {O : World → (Nat → Prop) → Prop} {ts : List (World → (Nat → Prop) → Prop)}
set_option maxRecDepth 20000 in
set_option maxHeartbeats 1000000 in
theorem w_one {s : ByteArray} (h : Things W w (Am 77 a bs ss :: O :: Blk B (abx a) :: Blk D (dbx s) :: ts)) {p m : Nat} (b : Bool) (hp : 1 ≤ m ∧ p + m ≤ bs.length) (hm : m ≤ s.size) (hk : ss.length ≤ 1000000) : Calls Try.prog 39 #[.agg #[.int .i64 p, .int .i64 m, .bool b], .pointer (some ⟨D, 0, none⟩), .pointer (some ⟨B, 0, none⟩)] w fun e w' => e = .returned (.int .i64 0) ∧ Things W w' (Am 77 a (over bs p (s.data.toList.take m)) (ss ++ [((p : Int), (m : Int), true)]) :: O :: Blk B (abx a) :: Blk D (dbx (s.extract m s.size)) :: ts) := by
  have hF : Fr (fun _ => False) w (w.alloc (.cells #[.int .i64 p, .int .i64 m, .bool b] 65)) := (Fr.refl _ _).alloc _
  have T0 := hid (h.kept hF)
  have c0 := abxc (T0.out.cells 2 rfl)
  obtain ⟨d0, d1⟩ := dbxc (T0.out.cells 3 rfl)
  obtain ⟨c1, c2⟩ := spbx w p m b
  have hD : D ≠ w.heap.size := fun e => by have := (Array.getElem?_eq_some_iff.1 (h.cells 3 rfl)).1; omega
  have T1 : Hid (Things W ((w.alloc (.cells #[.int .i64 p, .int .i64 m, .bool b] 65)).setCell ⟨D, 0, none⟩ (.string (s.extract m s.size))) (Am 77 a bs ss :: O :: Blk B (abx a) :: Blk D (dbx (s.extract m s.size)) :: ts)) := T0.out.setAt 3 rfl 0 _
  have e0 := abxc (T1.out.cells 2 rfl)
  have e1 := (World.cell?_of_block (((Fr.refl (fun i => i = D) (w.alloc (.cells #[.int .i64 p, .int .i64 m, .bool b] 65))).setCell (p := ⟨D, 0, none⟩) rfl (.string (s.extract m s.size))).block w.heap.size (by simp) fun e => hD e.symm)).trans c1
  have HC : Hid (∀ w1, Things W w1 (Am 77 a bs ss :: O :: Blk B (abx a) :: Blk D (dbx (s.extract m s.size)) :: ts) → Calls Try.prog 18 #[.pointer (some ⟨a, 0, none⟩), .int .i64 p, .string (s.extract 0 m)] w1 fun e w' => e = .returned (.int .i64 0) ∧ Things W w' (Am 77 a (over bs p (s.data.toList.take m)) (ss ++ [((p : Int), (m : Int), true)]) :: O :: Blk B (abx a) :: Blk D (dbx (s.extract m s.size)) :: ts)) := fun w1 h1 => h1.lift 0 rfl (Am.good _ _ _ _) fun U hU => by
    have hsz : (s.extract 0 m).size = m := by simp; omega
    have := am_write hU p (s.extract 0 m) (by rw [hsz]; exact hp.2) hk
    rw [hsz, noted_one (by omega), show (s.extract 0 m).data.toList = s.data.toList.take m by simp] at this
    exact this
  clear h hF hD T0 hp hk
  generalize hwa : w.alloc (.cells #[.int .i64 p, .int .i64 m, .bool b] 65) = wa at *
  go_enter Try.func39, Try.ntmps39
  go_wp2_with fail
  refine (HC.out _ T1.out).mono ?_
  rintro e w2 ⟨rfl, h2⟩
  have T2 := hid h2
  clear h2 HC T1 c0 c1 c2 d0 d1 e0 e1
  go_wp2
  go_ret
  exact ⟨by simp, T2.out⟩
theorem lenL_take {L : List Sq} {k : Nat} (hk : k < L.length) : lenL (L.take (k + 1)) = lenL (L.take k) + L[k].2.1.toNat := by
  rw [List.take_succ_eq_append_getElem hk, lenL_append]
  simp [lenL]
theorem lenL_le (L : List Sq) (k : Nat) : lenL (L.take k) ≤ lenL L := by
  have := lenL_append (L.take k) (L.drop k)
  rw [List.take_append_drop] at this
  omega
theorem w_all {ad : Option Addr} {cap : Nat} {L : List Sq} {s : ByteArray} (h : Things W w [Am 77 a bs ss, O, Blk B (abx a), Blk D (dbx s), Sv ad L]) (hap : Apt bs.length L) (hs : lenL L = s.size) (hk : ss.length + L.length ≤ 1000000) (hc : L.length ≤ cap) : Calls Try.prog 38 #[.slice ad L.length cap, .func (.func 39) #[] #[.pointer (some ⟨D, 0, none⟩), .pointer (some ⟨B, 0, none⟩)]] w fun e w' => e = .returned (.int .i64 0) ∧ ∃ X, Things W w' (Am 77 a (wrB bs L s.data.toList) (ss ++ tch L true) :: O :: X) := by
  refine (over_any (F := 39) (fun k w' => ∃ s' : ByteArray, s'.data.toList = s.data.toList.drop (lenL (L.take k)) ∧ Things W w' [Am 77 a (wrB bs (L.take k) s.data.toList) (ss ++ tch (L.take k) true), O, Blk B (abx a), Blk D (dbx s'), Sv ad L]) (fun _ _ => False) (fun k w' ⟨s', _, hi⟩ => hi.sps 4 rfl) hc (enters_of Try.func39 (by kernel_rfl) rfl) (fun k w' hk2 ⟨s', e1, hi⟩ => ?_) ⟨s, by simp [lenL], by simpa [wrB, tch] using h⟩).mono ?_
  · have hl := wrB_length (ds := s.data.toList) (hap.take k)
    obtain ⟨p1, p2, p3, p4⟩ := hap.at hk2
    have hle := lenL_le L (k + 1)
    rw [lenL_take hk2] at hle
    have hs1 : s'.size = s.size - lenL (L.take k) := by
      have := congrArg List.length e1
      rw [List.length_drop] at this
      exact this
    have H := w_one (ts := [Sv ad L]) hi (p := L[k].1.toNat) (m := L[k].2.1.toNat) L[k].2.2 (by rw [hl]; omega) (by omega) (by simp only [List.length_append, tch_length, List.length_take]; omega)
    rw [p2, p3] at H
    refine H.mono ?_
    rintro e w2 ⟨rfl, h2⟩
    rw [e1, ← wrB_snoc hk2, List.append_assoc, ← tch_snoc hk2] at h2
    refine ⟨0, rfl, fun _ => ⟨_, ?_, h2⟩, fun e => (e rfl).elim⟩
    rw [lenL_take hk2, ← List.drop_drop, ← e1]
    simp only [ByteArray.data_extract, Array.toList_extract, List.extract_eq_take_drop]
    exact List.take_of_length_le (by rw [List.length_drop]; exact Nat.le_refl _)
  · rintro e w' ⟨j, rfl, h1, h2⟩
    by_cases hj : j = 0
    · subst hj
      obtain ⟨s', _, this⟩ := h1 rfl
      rw [List.take_length] at this
      exact ⟨rfl, _, this⟩
    · exact (h2 hj).elim
theorem w_begin (h : Am 77 a bs ss w Z) (s : ByteArray) {w' : World} {ad : Option Addr} {L : List Sq} (hs : SpAt w' ad L) (hb : ∀ b off, ad = some ⟨b, off, none⟩ → 0 < L.length → ((w.alloc (abx a)).alloc (dbx s)).heap.size ≤ b) (f : Fr (fun _ => False) ((w.alloc (abx a)).alloc (dbx s)) w') : Things (Bare w) w' [Am 77 a bs ss, Old w Z, Blk w.heap.size (abx a), Blk (w.heap.size + 1) (dbx s), Sv ad L] := by
  have H := (((Things.begin (Am.good _ _ _ _) h h.lt).blk (abx a)).blk (dbx s)).moreSpans hs hb f
  rw [World.size_alloc] at H
  exact H
set_option maxRecDepth 20000 in
set_option maxHeartbeats 1000000 in
theorem v_write_w (h : Am 77 a bs ss w Z) (k : Tm t T w Y) (_hd : ∀ i, Z i → ¬ Y i) (ok : TbOk T) {x : Int} (hx : I64 x) (s : ByteArray) (hb : s.size ≤ 16384) (hk : ss.length ≤ 990000) : Calls Try.prog 19 #[.pointer (some ⟨a, 0, none⟩), .pointer (some ⟨t, 0, none⟩), .int .i64 x, .string s] w fun e w' => e = .returned (.int .i64 (vwE T bs.length x s.size)) ∧ ∃ Z', Am 77 a (vwB T bs x s.data.toList) (vwT T bs.length ss x s.size) w' Z' ∧ Gw w w' Z Z' := by
  have hF : Fr (fun _ => False) w ((w.alloc (abx a)).alloc (dbx s)) := ((Fr.refl _ _).alloc _).alloc _
  have H1 := hid (v_find (h.kept hF) (k.kept hF) ok hx (n := s.size) (by constructor <;> omega))
  have HA := hid h
  have HF := hid hF
  obtain ⟨v1, v2, _⟩ := vwL_facts (N := bs.length) (x := x) (n := s.size) ok (by omega)
  have HV := hid (And.intro v1 v2)
  have TT := (((Things.begin (Am.good _ _ _ _) h h.lt).blk (abx a)).blk (dbx s))
  have c0 := abxc (TT.cells 2 rfl)
  have c1 := (dbxc (TT.cells 3 rfl)).1
  rw [World.size_alloc] at c1
  have hsz : s.data.toList.length = s.size := rfl
  have HOK := hid ok
  clear h k ok hx hF v1 v2 TT
  by_cases hv : VwOk T bs.length x s.size
  · obtain ⟨e1, e2⟩ := vw_yes hv.1 hv.2
    have HL : Hid (lenL (piL T x s.size) = s.size) := (hv.apt HOK.out).2.1
    have E : Hid (vwE T bs.length x s.size = 0 ∧ vwB T bs x s.data.toList = wrB bs (piL T x s.size) s.data.toList ∧ vwT T bs.length ss x s.size = ss ++ tch (piL T x s.size) true) := ⟨e2, if_pos hv, if_pos hv⟩
    rw [e1] at HV
    rw [e1, e2] at H1
    clear hv e1 e2 HOK hsz
    rw [E.out.1, E.out.2.1, E.out.2.2]
    clear E
    generalize piL T x s.size = L at *
    go_enter Try.func19, Try.ntmps19
    go_wp2_with fail
    refine H1.out.mono ?_
    rintro e w1 ⟨ad, cap, rfl, hs, hb, f1, hc⟩
    have H2 := hid (w_all (w_begin HA.out s hs hb f1) HV.out.1 HL.out (by have := HV.out.2; omega) hc)
    clear hs hb f1 hc H1
    go_wp2_with fail
    refine H2.out.mono ?_
    rintro e w2 ⟨rfl, X, h2⟩
    have T2 := hid (h2.finish HA.out.lt)
    clear h2 H2
    go_wp2
    go_ret
    exact ⟨by simp, T2.out⟩
  · obtain ⟨e1, e2⟩ := vw_no hv
    have E : Hid (vwE T bs.length x s.size = 4 ∧ vwB T bs x s.data.toList = bs ∧ vwT T bs.length ss x s.size = ss) := ⟨e2, if_neg hv, if_neg hv⟩
    rw [e1, e2] at H1
    clear hv e1 e2 HV HOK hsz
    rw [E.out.1, E.out.2.1, E.out.2.2]
    clear E
    go_enter Try.func19, Try.ntmps19
    go_wp2_with fail
    refine H1.out.mono ?_
    rintro e w1 ⟨ad, cap, rfl, hs, hb, f1, hc⟩
    have T2 := hid (am_nothing HA.out (HF.out.trans f1))
    clear hs hb f1 hc H1
    go_wp2
    go_ret
    exact ⟨by simp, T2.out⟩
theorem v_write (h : Am 77 a bs ss w Z) (k : Tm t T w Y) (hd : ∀ i, Z i → ¬ Y i) (ok : TbOk T) {x : Int} (hx : I64 x) (s : ByteArray) (hb : s.size ≤ 16384) (hk : ss.length ≤ 900000) : Calls Try.prog 19 #[.pointer (some ⟨a, 0, none⟩), .pointer (some ⟨t, 0, none⟩), .int .i64 x, .string s] w fun e w' => e = .returned (.int .i64 (vwE T bs.length x s.size)) ∧ ∃ Z', Am 77 a (vwB T bs x s.data.toList) (vwT T bs.length ss x s.size) w' Z' ∧ Gw w w' Z Z' := v_write_w h k hd ok hx s hb (by omega)
end
end Go.Proofs.Ytcajdbklchjkkaa
