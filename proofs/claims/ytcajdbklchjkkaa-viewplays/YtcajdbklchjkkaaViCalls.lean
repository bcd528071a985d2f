/-
  What the calls of package view answer, and what they leave, at the landed code.
-/
import Derived.Test.YtcajdbklchjkkaaViCallsC
import Derived.Test.YtcajdbklchjkkaaBld
namespace Go.Proofs.Ytcajdbklchjkkaa
open Go.RowKit
open An

section
variable {W w w0 : World} {a t B b : Nat} {Z Y : Nat → Prop} {bs : List UInt8} {ss : List Sp} {T : Tb} {O : World → (Nat → Prop) → Prop} {ad : Option Addr} {L : List Sq} {l : List UInt8}
set_option maxRecDepth 20000 in
set_option maxHeartbeats 1000000 in
theorem r_one (h : Things W w [Am 77 a bs ss, O, Blk B (abx a), Sv ad L, Bd b l]) {p m : Nat} (bb : Bool) (hp : 1 ≤ m ∧ p + m ≤ bs.length) (hl : l.length + m ≤ 1000000) (hk : ss.length ≤ 1000000) : Calls Try.prog 40 #[.agg #[.int .i64 p, .int .i64 m, .bool bb], .pointer (some ⟨B, 0, none⟩), .pointer (some ⟨b, 0, none⟩)] w fun e w' => e = .returned (.int .i64 0) ∧ Things W w' [Am 77 a bs (ss ++ [((p : Int), (m : Int), false)]), O, Blk B (abx a), Sv ad L, Bd b (l ++ (bs.drop p).take m)] := by
  have hF : Fr (fun _ => False) w (w.alloc (.cells #[.int .i64 p, .int .i64 m, .bool bb] 65)) := (Fr.refl _ _).alloc _
  have T0 := hid (h.kept hF)
  have c0 := abxc (T0.out.cells 2 rfl)
  obtain ⟨c1, c2⟩ := spbx w p m bb
  have hlen : ((bs.drop p).take m).length = m := by rw [List.length_take, List.length_drop]; omega
  have H1 : Hid (∀ w1, Things W w1 [Am 77 a bs ss, O, Blk B (abx a), Sv ad L, Bd b l] → Calls Try.prog 15 #[.pointer (some ⟨a, 0, none⟩), .int .i64 p, .int .i64 m] w1 fun e w' => e = .returned (.tuple #[.string ⟨((bs.drop p).take m).toArray⟩, .int .i64 0]) ∧ Things W w' [Am 77 a bs (ss ++ [((p : Int), (m : Int), false)]), O, Blk B (abx a), Sv ad L, Bd b l]) := fun w1 h1 => h1.lift 0 rfl (Am.good _ _ _ _) fun U hU => by
    have := am_read hU p m hp.2 hk
    rw [noted_one (by omega)] at this
    exact this
  have H2 : Hid (∀ w1, Things W w1 [Am 77 a bs (ss ++ [((p : Int), (m : Int), false)]), O, Blk B (abx a), Sv ad L, Bd b l] → Calls Try.prog 41 #[.pointer (some ⟨b, 0, none⟩), .string ⟨((bs.drop p).take m).toArray⟩] w1 fun e w' => e = .returned (.tuple #[.int .i64 ((⟨((bs.drop p).take m).toArray⟩ : ByteArray).size : Nat), .nilIface]) ∧ Things W w' [Am 77 a bs (ss ++ [((p : Int), (m : Int), false)]), O, Blk B (abx a), Sv ad L, Bd b (l ++ (bs.drop p).take m)]) := fun w1 h1 => h1.lift 4 rfl (Bd.good _ _) fun U hU => bl_write hU ⟨((bs.drop p).take m).toArray⟩ (show 0 < ((bs.drop p).take m).toArray.size by rw [List.size_toArray, hlen]; omega) (show l.length + ((bs.drop p).take m).toArray.size ≤ 1000000 by rw [List.size_toArray, hlen]; exact hl)
  clear h hF hp hk hl hlen
  generalize hwa : w.alloc (.cells #[.int .i64 p, .int .i64 m, .bool bb] 65) = wa at *
  generalize ((⟨((bs.drop p).take m).toArray⟩ : ByteArray).size : Nat) = sz at *
  go_enter Try.func40, Try.ntmps40
  go_wp2_with fail
  refine (H1.out _ T0.out).mono ?_
  rintro e w1 ⟨rfl, h1⟩
  have T1 := hid h1
  clear h1 H1 T0 c0 c1 c2
  go_wp2_with fail
  refine (H2.out _ T1.out).mono ?_
  rintro e w2 ⟨rfl, h2⟩
  have T2 := hid h2
  clear h2 H2 T1
  go_wp2
  go_ret
  exact ⟨by simp, T2.out⟩
theorem r_all {cap : Nat} (h : Things W w [Am 77 a bs ss, O, Blk B (abx a), Sv ad L, Bd b []]) (hap : Apt bs.length L) (hs : lenL L ≤ 1000000) (hk : ss.length + L.length ≤ 1000000) (hc : L.length ≤ cap) : Calls Try.prog 38 #[.slice ad L.length cap, .func (.func 40) #[] #[.pointer (some ⟨B, 0, none⟩), .pointer (some ⟨b, 0, none⟩)]] w fun e w' => e = .returned (.int .i64 0) ∧ Things W w' [Am 77 a bs (ss ++ tch L false), O, Blk B (abx a), Sv ad L, Bd b (rdB bs L)] := by
  refine (over_any (F := 40) (fun k w' => Things W w' [Am 77 a bs (ss ++ tch (L.take k) false), O, Blk B (abx a), Sv ad L, Bd b (rdB bs (L.take k))]) (fun _ _ => False) (fun k w' hi => hi.sps 3 rfl) hc (enters_of Try.func40 (by kernel_rfl) rfl) (fun k w' hk2 hi => ?_) (by simpa [rdB, tch] using h)).mono ?_
  · have hl := rdB_length (hap.take k)
    obtain ⟨p1, p2, p3, p4⟩ := hap.at hk2
    have hle := lenL_le L (k + 1)
    rw [lenL_take hk2] at hle
    have H := r_one hi (p := L[k].1.toNat) (m := L[k].2.1.toNat) L[k].2.2 (by omega) (by rw [hl]; omega) (by simp only [List.length_append, tch_length, List.length_take]; omega)
    rw [p2, p3] at H
    refine H.mono ?_
    rintro e w2 ⟨rfl, h2⟩
    rw [← rdB_snoc bs hk2, List.append_assoc, ← tch_snoc hk2] at h2
    exact ⟨0, rfl, fun _ => h2, fun e => (e rfl).elim⟩
  · rintro e w' ⟨j, rfl, h1, h2⟩
    by_cases hj : j = 0
    · subst hj
      have := h1 rfl
      rw [List.take_length] at this
      exact ⟨rfl, this⟩
    · exact (h2 hj).elim
theorem Things.bld (h : Things W w [Am 77 a bs ss, O, Blk B (abx a), Sv ad L]) : Things W (w.alloc (.cells #[.pointer none, .slice none 0 0] 92)) [Am 77 a bs ss, O, Blk B (abx a), Sv ad L, Bd w.heap.size []] :=
  h.more (Bd.good _ _) (Bd.new w) ((Fr.refl _ _).alloc _) fun i hi => by simp only [World.size_alloc]; omega
theorem r_string (h : Things W w [Am 77 a bs ss, O, Blk B (abx a), Sv ad L, Bd b l]) : Calls Try.prog 42 #[.pointer (some ⟨b, 0, none⟩)] w fun e w' => e = .returned (.string ⟨l.toArray⟩) ∧ ∃ X, Things W w' (Am 77 a bs ss :: O :: X) := by
  obtain ⟨U, h1, h2, h3⟩ := h.turn 4 rfl
  refine (bl_string h1).mono ?_
  rintro e w' ⟨rfl, f⟩
  exact ⟨rfl, _, h3 (fun w U => ∀ i, U i → i < w.heap.size) w' U ⟨fun h f _ i hi => Nat.lt_of_lt_of_le (h i hi) f.size, fun _ _ k => k⟩ (fun i hi => Nat.lt_of_lt_of_le (h2 i hi).2 f.size) (Gw.same (fun i hi => (h2 i hi).2) f)⟩
set_option maxRecDepth 20000 in
set_option maxHeartbeats 1000000 in
theorem v_read (h : Am 77 a bs ss w Z) (k : Tm t T w Y) (_hd : ∀ i, Z i → ¬ Y i) (ok : TbOk T) {x n : Int} (hx : I64 x) (hn : I64 n) (hb : n ≤ 16384) (hk : ss.length ≤ 900000) : Calls Try.prog 20 #[.pointer (some ⟨a, 0, none⟩), .pointer (some ⟨t, 0, none⟩), .int .i64 x, .int .i64 n] w fun e w' => e = .returned (.tuple #[.string ⟨(vrV T bs x n).toArray⟩, .int .i64 (vwE T bs.length x n)]) ∧ ∃ Z', Am 77 a bs (vrT T bs.length ss x n) w' Z' ∧ Gw w w' Z Z' := by
  have hF : Fr (fun _ => False) w (w.alloc (abx a)) := (Fr.refl _ _).alloc _
  have H1 := hid (v_find (h.kept hF) (k.kept hF) ok hx hn)
  have HA := hid h
  have HF := hid hF
  obtain ⟨v1, v2, v3⟩ := vwL_facts (N := bs.length) (x := x) ok hb
  have HV := hid (And.intro v1 (And.intro v2 v3))
  have c0 := abxc (heap_alloc_new w (abx a))
  clear h k ok hx hn hF v1 v2 v3 hb
  by_cases hv : VwOk T bs.length x n
  · obtain ⟨e1, e2⟩ := vw_yes hv.1 hv.2
    have E : Hid (vwE T bs.length x n = 0 ∧ vrV T bs x n = rdB bs (piL T x n) ∧ vrT T bs.length ss x n = ss ++ tch (piL T x n) false) := ⟨e2, if_pos hv, if_pos hv⟩
    rw [e1] at HV
    rw [e1, e2] at H1
    clear hv e1 e2
    rw [E.out.1, E.out.2.1, E.out.2.2]
    clear E
    generalize piL T x n = L at *
    go_enter Try.func20, Try.ntmps20
    go_wp2_with fail
    refine H1.out.mono ?_
    rintro e w1 ⟨ad, cap, rfl, hs, hb, f1, hc⟩
    have H2 := hid (r_all (v_begin HA.out hs hb f1).bld HV.out.1 (by have := HV.out.2.2; omega) (by have := HV.out.2.1; omega) hc)
    clear hs hb f1 hc H1
    go_wp2_with fail
    refine H2.out.mono ?_
    rintro e w2 ⟨rfl, h2⟩
    have H3 := hid (r_string h2)
    clear h2 H2
    go_wp2_with fail
    refine H3.out.mono ?_
    rintro e w3 ⟨rfl, X, h3⟩
    have T2 := hid (h3.finish HA.out.lt)
    clear h3 H3
    go_wp2
    go_ret2
    exact ⟨by simp, T2.out⟩
  · obtain ⟨e1, e2⟩ := vw_no hv
    have E : Hid (vwE T bs.length x n = 4 ∧ vrV T bs x n = [] ∧ vrT T bs.length ss x n = ss) := ⟨e2, if_neg hv, if_neg hv⟩
    rw [e1, e2] at H1
    clear hv e1 e2 HV
    rw [E.out.1, E.out.2.1, E.out.2.2]
    clear E
    go_enter Try.func20, Try.ntmps20
    go_wp2_with fail
    refine H1.out.mono ?_
    rintro e w1 ⟨ad, cap, rfl, hs, hb, f1, hc⟩
    have T2 := hid (am_nothing HA.out (HF.out.trans f1))
    clear hs hb f1 hc H1
    go_wp2
    go_ret2
    exact ⟨by simp, T2.out⟩
set_option maxRecDepth 20000 in
set_option maxHeartbeats 1000000 in
theorem v_copy (h : Am 77 a bs ss w Z) (k : Tm t T w Y) (hd : ∀ i, Z i → ¬ Y i) (ok : TbOk T) {x y n : Int} (hx : I64 x) (hy : I64 y) (hn : I64 n) (hb : n ≤ 16384) (hk : ss.length ≤ 900000) : Calls Try.prog 23 #[.pointer (some ⟨a, 0, none⟩), .pointer (some ⟨t, 0, none⟩), .int .i64 x, .int .i64 y, .int .i64 n] w fun e w' => e = .returned (.int .i64 (vcE T bs.length x y n)) ∧ ∃ Z', Am 77 a (vcB T bs x y n) (vcT T bs.length ss x y n) w' Z' ∧ Gw w w' Z Z' := by
  have H1 := hid (v_find h k ok hx hn)
  by_cases hv : VwOk T bs.length x n
  · obtain ⟨e1, e2⟩ := vw_yes hv.1 hv.2
    rw [e1, e2] at H1
    have H2 : Hid (∀ w1, Fr (fun _ => False) w w1 → Calls Try.prog 20 #[.pointer (some ⟨a, 0, none⟩), .pointer (some ⟨t, 0, none⟩), .int .i64 y, .int .i64 n] w1 fun e w' => e = .returned (.tuple #[.string ⟨(vrV T bs y n).toArray⟩, .int .i64 (vwE T bs.length y n)]) ∧ ∃ Z', Am 77 a bs (vrT T bs.length ss y n) w' Z' ∧ Gw w w' Z Z') := fun w1 f => (v_read (h.kept f) (k.kept f) hd ok hy hn hb hk).mono fun _ _ ⟨he, Z', h1, h2⟩ => ⟨he, Z', h1, Gw.ahead f h2⟩
    by_cases hv2 : VwOk T bs.length y n
    · obtain ⟨e3, e4⟩ := vw_yes hv2.1 hv2.2
      have hvr : vrV T bs y n = rdB bs (piL T y n) := if_pos hv2
      have hvt : vrT T bs.length ss y n = ss ++ tch (piL T y n) false := if_pos hv2
      rw [e4, hvr, hvt] at H2
      obtain ⟨p1, p2, p3, _⟩ := hv2.apt ok
      have hn0 := hv2.len
      have hsz : (rdB bs (piL T y n)).length = n.toNat := (rdB_length p1).trans p2
      have E : Hid (vcE T bs.length x y n = 0 ∧ vcB T bs x y n = vwB T bs x (rdB bs (piL T y n)) ∧ vcT T bs.length ss x y n = vwT T bs.length (ss ++ tch (piL T y n) false) x n) := by
        have hl : ((rdB bs (piL T y n)).length : Int) = n := by rw [hsz]; omega
        refine ⟨if_pos ⟨hv, hv2⟩, ?_, ?_⟩
        · unfold vcB vwB
          rw [if_pos ⟨hv, hv2⟩, hl, if_pos hv]
        · unfold vcT vwT
          rw [if_pos ⟨hv, hv2⟩, if_pos hv]
      have H3 : Hid (∀ (w2 : World) (Z2 : Nat → Prop), Am 77 a bs (ss ++ tch (piL T y n) false) w2 Z2 → Gw w w2 Z Z2 → Calls Try.prog 19 #[.pointer (some ⟨a, 0, none⟩), .pointer (some ⟨t, 0, none⟩), .int .i64 x, .string ⟨(rdB bs (piL T y n)).toArray⟩] w2 fun e w' => e = .returned (.int .i64 0) ∧ ∃ Z', Am 77 a (vwB T bs x (rdB bs (piL T y n))) (vwT T bs.length (ss ++ tch (piL T y n) false) x n) w' Z' ∧ Gw w w' Z Z') := fun w2 Z2 h2 g2 => by
        have hs2 : (⟨(rdB bs (piL T y n)).toArray⟩ : ByteArray).size = n.toNat := hsz
        have hlt := (Tm.good t T).1 k g2.fr fun i hi e => hd i e hi
        have hkl := k.lt
        refine (v_write_w h2 hlt (fun i e1 e2 => ?_) ok hx ⟨(rdB bs (piL T y n)).toArray⟩ (by rw [hs2]; omega) (by rw [List.length_append, tch_length]; omega)).mono ?_
        · rcases g2.new i e1 with e | e
          · exact hd i e e2
          · have := hkl i e2; omega
        · rintro e w' ⟨he, Z', h3, g3⟩
          rw [hs2, show ((n.toNat : Nat) : Int) = n by omega] at he h3
          rw [e2] at he
          exact ⟨he, Z', h3, g2.trans g3⟩
      clear h k hd ok hx hy hn hb hk hv hv2 e1 e2 e3 e4 hvr hvt p1 p2 p3 hn0 hsz
      rw [E.out.1, E.out.2.1, E.out.2.2]
      clear E
      generalize vwB T bs x (rdB bs (piL T y n)) = B2 at *
      generalize vwT T bs.length (ss ++ tch (piL T y n) false) x n = S2 at *
      generalize ss ++ tch (piL T y n) false = S1 at *
      generalize rdB bs (piL T y n) = D1 at *
      generalize piL T x n = L at *
      go_enter Try.func23, Try.ntmps23
      go_wp2_with fail
      refine H1.out.mono ?_
      rintro e w1 ⟨ad, cap, rfl, _, _, f1, _⟩
      have HF := hid f1
      clear f1 H1
      go_wp2_with fail
      refine (H2.out _ HF.out).mono ?_
      rintro e w2 ⟨rfl, Z2, h2, g2⟩
      have HC := hid (H3.out w2 Z2 h2 g2)
      clear h2 g2 H2 H3
      go_wp2_with fail
      refine HC.out.mono ?_
      rintro e w3 ⟨rfl, h3⟩
      have T3 := hid h3
      clear h3 HC
      go_wp2
      go_ret
      exact ⟨by simp, T3.out⟩
    · obtain ⟨e3, e4⟩ := vw_no hv2
      have hvr : vrV T bs y n = [] := if_neg hv2
      have hvt : vrT T bs.length ss y n = ss := if_neg hv2
      rw [e4, hvr, hvt] at H2
      have E : Hid (vcE T bs.length x y n = 4 ∧ vcB T bs x y n = bs ∧ vcT T bs.length ss x y n = ss) := ⟨if_neg fun e => hv2 e.2, if_neg fun e => hv2 e.2, if_neg fun e => hv2 e.2⟩
      clear h k hd ok hx hy hn hb hk hv hv2 e1 e2 e3 e4 hvr hvt
      rw [E.out.1, E.out.2.1, E.out.2.2]
      clear E
      generalize piL T x n = L at *
      go_enter Try.func23, Try.ntmps23
      go_wp2_with fail
      refine H1.out.mono ?_
      rintro e w1 ⟨ad, cap, rfl, _, _, f1, _⟩
      have HF := hid f1
      clear f1 H1
      go_wp2_with fail
      refine (H2.out _ HF.out).mono ?_
      rintro e w2 ⟨rfl, h2⟩
      have T3 := hid h2
      clear h2 H2
      go_wp2
      go_ret
      exact ⟨by simp, T3.out⟩
  · obtain ⟨e1, e2⟩ := vw_no hv
    rw [e1, e2] at H1
    have E : Hid (vcE T bs.length x y n = 4 ∧ vcB T bs x y n = bs ∧ vcT T bs.length ss x y n = ss) := ⟨if_neg fun e => hv e.1, if_neg fun e => hv e.1, if_neg fun e => hv e.1⟩
    have HA := hid h
    clear h k hd ok hx hy hn hb hk hv e1 e2
    rw [E.out.1, E.out.2.1, E.out.2.2]
    clear E
    go_enter Try.func23, Try.ntmps23
    go_wp2_with fail
    refine H1.out.mono ?_
    rintro e w1 ⟨ad, cap, rfl, _, _, f1, _⟩
    have T3 := hid (am_nothing HA.out f1)
    clear f1 H1
    go_wp2
    go_ret
    exact ⟨by simp, T3.out⟩
end
section
set_option maxRecDepth 20000 in
theorem find_a (q : Option Addr) (x n : Int) (w : World) : Calls Try.prog 37 #[.pointer none, .pointer q, .int .i64 x, .int .i64 n] w fun e w' => e = .returned (.tuple #[.slice none 0 0, .int .i64 11]) ∧ Fr (fun _ => False) w w' := by
  go_enter Try.func37, Try.ntmps37
  go_wp2
  go_ret2
  exact ⟨by simp, (Fr.refl _ _).alloc _⟩
set_option maxRecDepth 20000 in
theorem find_t (q : Option Addr) (x n : Int) (w : World) : Calls Try.prog 37 #[.pointer q, .pointer none, .int .i64 x, .int .i64 n] w fun e w' => e = .returned (.tuple #[.slice none 0 0, .int .i64 11]) ∧ Fr (fun _ => False) w w' := by
  cases q with
  | none => exact find_a none x n w
  | some q =>
    go_enter Try.func37, Try.ntmps37
    go_wp2
    go_ret2
    exact ⟨by simp, (Fr.refl _ _).alloc _⟩
set_option maxRecDepth 20000 in
theorem v_read_a (q : Option Addr) (x n : Int) (w : World) : Calls Try.prog 20 #[.pointer none, .pointer q, .int .i64 x, .int .i64 n] w fun e w' => e = .returned (.tuple #[.string ⟨#[]⟩, .int .i64 11]) ∧ Fr (fun _ => False) w w' := by
  have H1 := hid (find_a q x n (w.alloc (.cells #[.pointer none] 31)))
  go_enter Try.func20, Try.ntmps20
  go_wp2_with fail
  refine H1.out.mono ?_
  rintro e w1 ⟨rfl, f1⟩
  have HF : Hid (Fr (fun _ => False) w w1) := ((Fr.refl _ _).alloc _).trans f1
  clear f1 H1
  go_wp2
  go_ret2
  exact ⟨by simp, HF.out⟩
set_option maxRecDepth 20000 in
theorem v_read_t (q : Option Addr) (x n : Int) (w : World) : Calls Try.prog 20 #[.pointer q, .pointer none, .int .i64 x, .int .i64 n] w fun e w' => e = .returned (.tuple #[.string ⟨#[]⟩, .int .i64 11]) ∧ Fr (fun _ => False) w w' := by
  have H1 := hid (find_t q x n (w.alloc (.cells #[.pointer q] 31)))
  go_enter Try.func20, Try.ntmps20
  go_wp2_with fail
  refine H1.out.mono ?_
  rintro e w1 ⟨rfl, f1⟩
  have HF : Hid (Fr (fun _ => False) w w1) := ((Fr.refl _ _).alloc _).trans f1
  clear f1 H1
  go_wp2
  go_ret2
  exact ⟨by simp, HF.out⟩
set_option maxRecDepth 20000 in
theorem v_write_a (q : Option Addr) (x : Int) (s : ByteArray) (w : World) : Calls Try.prog 19 #[.pointer none, .pointer q, .int .i64 x, .string s] w fun e w' => e = .returned (.int .i64 11) ∧ Fr (fun _ => False) w w' := by
  have H1 := hid (find_a q x s.size ((w.alloc (.cells #[.pointer none] 31)).alloc (.cells #[.string s] 9)))
  go_enter Try.func19, Try.ntmps19
  go_wp2_with fail
  refine H1.out.mono ?_
  rintro e w1 ⟨rfl, f1⟩
  have HF : Hid (Fr (fun _ => False) w w1) := (((Fr.refl _ _).alloc _).alloc _).trans f1
  clear f1 H1
  go_wp2
  go_ret
  exact ⟨by simp, HF.out⟩
set_option maxRecDepth 20000 in
theorem v_zero_t (q : Option Addr) (x n : Int) (w : World) : Calls Try.prog 22 #[.pointer q, .pointer none, .int .i64 x, .int .i64 n] w fun e w' => e = .returned (.int .i64 11) ∧ Fr (fun _ => False) w w' := by
  have H1 := hid (find_t q x n (w.alloc (.cells #[.pointer q] 31)))
  go_enter Try.func22, Try.ntmps22
  go_wp2_with fail
  refine H1.out.mono ?_
  rintro e w1 ⟨rfl, f1⟩
  have HF : Hid (Fr (fun _ => False) w w1) := ((Fr.refl _ _).alloc _).trans f1
  clear f1 H1
  go_wp2
  go_ret
  exact ⟨by simp, HF.out⟩
set_option maxRecDepth 20000 in
theorem v_copy_a (q : Option Addr) (x y n : Int) (w : World) : Calls Try.prog 23 #[.pointer none, .pointer q, .int .i64 x, .int .i64 y, .int .i64 n] w fun e w' => e = .returned (.int .i64 11) ∧ Fr (fun _ => False) w w' := by
  have H1 := hid (find_a q x n w)
  go_enter Try.func23, Try.ntmps23
  go_wp2_with fail
  refine H1.out.mono ?_
  rintro e w1 ⟨rfl, f1⟩
  have HF := hid f1
  clear f1 H1
  go_wp2
  go_ret
  exact ⟨by simp, HF.out⟩
end
end Go.Proofs.Ytcajdbklchjkkaa
