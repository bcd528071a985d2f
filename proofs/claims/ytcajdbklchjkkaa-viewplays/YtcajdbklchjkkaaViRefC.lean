/-
  What the document's view answers, and leaves: Write, Zero, Copy.
-/
import Derived.Test.YtcajdbklchjkkaaViRefB
namespace Go.Proofs.Ytcajdbklchjkkaa
open Go.RowKit
open An

/-- Things, of which the one at i has turned, and a new one behind them. -/
abbrev Ts1 (ts : List (World → (Nat → Prop) → Prop)) (i : Nat) (A S : World → (Nat → Prop) → Prop) : List (World → (Nat → Prop) → Prop) := ts.set i A ++ [S]
section
variable {ts : List (World → (Nat → Prop) → Prop)} {i : Nat} {A A' S : World → (Nat → Prop) → Prop}
theorem ts1_a (h : i < ts.length) : (Ts1 ts i A S)[i]? = some A := append_at (by simp [h])
theorem ts1_s : (Ts1 ts i A S)[ts.length]? = some S := by simp [Ts1]
theorem ts1_seta (h : i < ts.length) : (Ts1 ts i A S).set i A' = Ts1 ts i A' S := by
  unfold Ts1
  rw [set_app (by simp; omega), List.set_set]
end
section
variable {W w : World} {ts : List (World → (Nat → Prop) → Prop)} {r base q : Nat} {bs : List UInt8} {ss : List Sp} {T : Tb}
set_option maxRecDepth 20000 in
set_option maxHeartbeats 4000000 in
theorem d_zero (h : Things W w ts) (i j : Nat) (hi : ts[i]? = some (Am 51 r bs ss)) (hj : ts[j]? = some (Dt base q T)) (ok : TbOk T) (hbs : bs.length ≤ 2097152) (hss : ss.length ≤ 900000) {x n : Int} (hn : n ≤ 16384) : Calls Try.prog 27 #[.pointer (some ⟨r, 0, none⟩), .pointer (some ⟨q, 0, none⟩), .int .i64 x, .int .i64 n] w fun e w' => e = .returned (.int .i64 (vwE T bs.length x n)) ∧ Things W w' (ts.set i (Am 51 r (vzB T bs x n) (vwT T bs.length ss x n))) := by
  have HP := hid (d_pieces h i j hi hj ok hbs (x := x) hn)
  obtain ⟨ha, hl34, hl16⟩ := vwL_facts ok (N := bs.length) (x := x) hn
  have HA := hid ha
  have eV : vzB T bs x n = zrB bs (vwL T bs.length x n) := by unfold vzB vwL; split <;> rfl
  have eT : vwT T bs.length ss x n = ss ++ tch (vwL T bs.length x n) true := by
    unfold vwT vwL
    split
    · rfl
    · simp [tch]
  rw [eV, eT]
  have hil := ltAt hi
  have HT0 : Hid (ts.set i (Am 51 r bs ss) = ts) := set_same hi
  clear h hj ok ha eV eT hi
  generalize vwE T bs.length x n = ev at *
  generalize vwL T bs.length x n = L at *
  go_enter Try.func27, Try.ntmps27
  go_wp2_with fail
  refine HP.out.mono ?_
  rintro e w1 ⟨ad, cap, rfl, h1⟩
  have T1 : Hid (Things W w1 (Ts1 ts i (Am 51 r (zrB bs (L.take 0)) (ss ++ tch (L.take 0) true)) (Sv ad L))) := by
    show Things _ _ _
    rw [List.take_zero, show tch [] true = [] from rfl, show zrB bs [] = bs from rfl, List.append_nil]
    unfold Ts1
    rw [HT0.out]
    exact h1
  clear h1 HP HT0
  have HR : Hid (∀ k (hk : k < L.length) w0, Things W w0 (Ts1 ts i (Am 51 r (zrB bs (L.take k)) (ss ++ tch (L.take k) true)) (Sv ad L)) → Calls Try.prog 52 #[.pointer (some ⟨r, 0, none⟩), .int .i64 L[k].1, .int .i64 L[k].2.1] w0 fun e w' => e = .returned (.int .i64 0) ∧ Things W w' (Ts1 ts i (Am 51 r (zrB bs (L.take (k + 1))) (ss ++ tch (L.take (k + 1)) true)) (Sv ad L))) := fun k hk w0 h0 => by
    obtain ⟨p1, p2, p3, p4⟩ := HA.out.at hk
    have := ra_zero h0 i (ts1_a hil) L[k].1.toNat L[k].2.1.toNat (by rw [zrB_length (HA.out.take k)]; exact p1) (by rw [List.length_append, tch_length, List.length_take]; omega)
    rw [p2, p3] at this
    refine this.mono fun e w' ⟨he, h2⟩ => ⟨he, ?_⟩
    rw [ts1_seta hil] at h2
    have e2 : noted (ss ++ tch (L.take k) true) L[k].1 L[k].2.1 true = ss ++ tch (L.take (k + 1)) true := by
      rw [← p2, ← p3, noted_more p4, tch_snoc hk, List.append_assoc, p2, p3]
    rw [e2, ← zrB_snoc hk] at h2
    exact h2
  clear HA hl16
  go_wp2
  go_loopw [11] (fun i_ wr => ∃ k : Nat, k ≤ L.length ∧ i_ = .int .i64 k ∧ Hid (Things W wr (Ts1 ts i (Am 51 r (zrB bs (L.take k)) (ss ++ tch (L.take k) true)) (Sv ad L)))) (fun i_ _ => L.length - (intOf i_).toNat)
  case atStart => exact ⟨0, by omega, rfl, T1⟩
  case round =>
    obtain ⟨k, hk, rfl, T2⟩ := hrel
    clear T1
    by_cases hlt : k < L.length
    · obtain ⟨bb, off, rfl, hbb, hc1, hc2, hc3⟩ := T2.out.sps ts.length ts1_s k hlt
      have HC := hid fun w0 h0 => HR.out k hlt w0 h0
      have HCS : Hid (∀ w0 A, Things W w0 (Ts1 ts i A (Sv (some ⟨bb, off, none⟩) L)) → w0.cell? ⟨bb, off + k * 3, none⟩ = some (.int .i64 L[k].1) ∧ w0.cell? ⟨bb, off + k * 3 + 1, none⟩ = some (.int .i64 L[k].2.1)) := fun w0 A h0 => by
        obtain ⟨b', o', e, _, x1, x2, _⟩ := h0.sps ts.length ts1_s k hlt
        simp only [Option.some.injEq, Addr.mk.injEq] at e
        obtain ⟨rfl, rfl, _⟩ := e
        exact ⟨x1, x2⟩
      clear HR hc3
      generalize L[k] = s at *
      obtain ⟨s1, s2, s3⟩ := s
      simp only at hc1 hc2 HC HCS
      go_wp2_with fail
      go_region_held3 (fun w' => w'.cell? ⟨bb, off + k * 3, none⟩ = some (.int .i64 s1) ∧ w'.cell? ⟨bb, off + k * 3 + 1, none⟩ = some (.int .i64 s2)) (first | exact ⟨by assumption, by assumption⟩ | go_keep) (first | (go_at_call 52; refine (HC.out _ (T2.out.kept (Fr.refl _ _).drew)).mono ?_; rintro e w3 ⟨rfl, h3⟩; have T3 := hid h3; obtain ⟨e1, e2⟩ := HCS.out _ _ h3; clear h3))
      clear HC HCS T2 e1 e2 hc1 hc2
      go_wp2
      go_roundw
      case rel => exact ⟨k + 1, by omega, by go_num, T3⟩
      case measure => simp [intOf]; omega
    · obtain rfl : L.length = k := by omega
      have T3 : Hid (Things W wr (ts.set i (Am 51 r (zrB bs L) (ss ++ tch L true)))) := by
        have := T2.out.less
        rw [List.take_length] at this
        exact this
      clear HR T2
      go_wp2
      go_ret
      exact ⟨by simp, T3.out⟩
set_option maxRecDepth 20000 in
set_option maxHeartbeats 4000000 in
theorem d_write (h : Things W w ts) (i j : Nat) (hi : ts[i]? = some (Am 51 r bs ss)) (hj : ts[j]? = some (Dt base q T)) (ok : TbOk T) (hbs : bs.length ≤ 2097152) (hss : ss.length ≤ 900000) {x : Int} (s : ByteArray) (hn : s.size ≤ 16384) : Calls Try.prog 26 #[.pointer (some ⟨r, 0, none⟩), .pointer (some ⟨q, 0, none⟩), .int .i64 x, .string s] w fun e w' => e = .returned (.int .i64 (vwE T bs.length x s.size)) ∧ Things W w' (ts.set i (Am 51 r (vwB T bs x s.data.toList) (vwT T bs.length ss x s.size))) := by
  have HP := hid (d_pieces h i j hi hj ok hbs (x := x) (n := s.size) (by omega))
  obtain ⟨ha, hl34, hl16⟩ := vwL_facts ok (N := bs.length) (x := x) (n := s.size) (by omega)
  have HA := hid ha
  have eV : vwB T bs x s.data.toList = wrB bs (vwL T bs.length x s.size) s.data.toList := by
    show (if VwOk T bs.length x s.size then wrB bs (piL T x s.size) s.data.toList else bs) = _
    unfold vwL
    split <;> rfl
  have eT : vwT T bs.length ss x s.size = ss ++ tch (vwL T bs.length x s.size) true := by
    unfold vwT vwL
    split
    · rfl
    · simp [tch]
  have hlen : lenL (vwL T bs.length x s.size) ≤ s.size := by
    unfold vwL
    split
    · rename_i hv; have := (hv.apt ok).2.1; omega
    · simp [lenL]
  rw [eV, eT]
  have hil := ltAt hi
  have HT0 : Hid (ts.set i (Am 51 r bs ss) = ts) := set_same hi
  clear h hj ok ha eV eT hi
  generalize vwE T bs.length x s.size = ev at *
  generalize vwL T bs.length x s.size = L at *
  go_enter Try.func26, Try.ntmps26
  go_wp2_with fail
  refine HP.out.mono ?_
  rintro e w1 ⟨ad, cap, rfl, h1⟩
  have T1 : Hid (Things W w1 (Ts1 ts i (Am 51 r (wrB bs (L.take 0) s.data.toList) (ss ++ tch (L.take 0) true)) (Sv ad L))) := by
    show Things _ _ _
    rw [List.take_zero, show tch [] true = [] from rfl, show wrB bs [] s.data.toList = bs from rfl, List.append_nil]
    unfold Ts1
    rw [HT0.out]
    exact h1
  clear h1 HP HT0
  have HR : Hid (∀ k (hk : k < L.length) w0 (d1 : ByteArray), d1.data.toList = (s.data.toList.drop (lenL (L.take k))).take L[k].2.1.toNat → Things W w0 (Ts1 ts i (Am 51 r (wrB bs (L.take k) s.data.toList) (ss ++ tch (L.take k) true)) (Sv ad L)) → Calls Try.prog 51 #[.pointer (some ⟨r, 0, none⟩), .int .i64 L[k].1, .string d1] w0 fun e w' => e = .returned (.int .i64 0) ∧ Things W w' (Ts1 ts i (Am 51 r (wrB bs (L.take (k + 1)) s.data.toList) (ss ++ tch (L.take (k + 1)) true)) (Sv ad L))) := fun k hk w0 d1 hd1 h0 => by
    obtain ⟨p1, p2, p3, p4⟩ := HA.out.at hk
    have hsum := lenL_append (L.take k) (L.drop k)
    rw [List.take_append_drop, List.drop_eq_getElem_cons hk] at hsum
    simp only [lenL] at hsum
    have hds : d1.size = L[k].2.1.toNat := by
      have h1 : d1.data.toList.length = d1.size := len_list d1
      rw [← h1, hd1, List.length_take, List.length_drop, len_list]
      omega
    have := ra_write h0 i (ts1_a hil) L[k].1.toNat d1 (by rw [wrB_length (HA.out.take k), hds]; exact p1) (by rw [List.length_append, tch_length, List.length_take]; omega)
    rw [p2] at this
    refine this.mono fun e w' ⟨he, h2⟩ => ⟨he, ?_⟩
    rw [ts1_seta hil, hd1, hds] at h2
    have e2 : noted (ss ++ tch (L.take k) true) L[k].1 L[k].2.1.toNat true = ss ++ tch (L.take (k + 1)) true := by
      rw [← p2, noted_more p4, tch_snoc hk, List.append_assoc, p2, p3]
    rw [e2, ← wrB_snoc hk] at h2
    exact h2
  have HB : Hid (∀ k (hk : k < L.length), L[k].1 ≤ 4194304 ∧ 0 ≤ L[k].1 ∧ 0 ≤ L[k].2.1 ∧ lenL (L.take k) + L[k].2.1.toNat ≤ s.size ∧ lenL (L.take (k + 1)) = lenL (L.take k) + L[k].2.1.toNat) := fun k hk => by
    obtain ⟨p1, p2, p3, p4⟩ := HA.out.at hk
    have hsum := lenL_append (L.take k) (L.drop k)
    rw [List.take_append_drop, List.drop_eq_getElem_cons hk] at hsum
    simp only [lenL] at hsum
    refine ⟨by omega, by omega, by omega, by omega, ?_⟩
    rw [List.take_succ_eq_append_getElem hk, lenL_append]
    simp [lenL]
  clear HA hl16
  go_wp2
  go_loopw [3, 11] (fun y i_ wr => ∃ (k : Nat) (d : ByteArray), k ≤ L.length ∧ i_ = .int .i64 k ∧ y = .string d ∧ Hid (d.data.toList = s.data.toList.drop (lenL (L.take k))) ∧ Hid (Things W wr (Ts1 ts i (Am 51 r (wrB bs (L.take k) s.data.toList) (ss ++ tch (L.take k) true)) (Sv ad L)))) (fun _ i_ _ => L.length - (intOf i_).toNat)
  case atStart => exact ⟨0, s, by omega, rfl, rfl, by show _ = _; simp [lenL], T1⟩
  case round =>
    obtain ⟨k, d, hk, rfl, rfl, HD, T2⟩ := hrel
    clear T1
    by_cases hlt : k < L.length
    · obtain ⟨bb, off, rfl, hbb, hc1, hc2, hc3⟩ := T2.out.sps ts.length ts1_s k hlt
      have HC := hid fun w0 d1 hd h0 => HR.out k hlt w0 d1 hd h0
      have HCS : Hid (∀ w0 A, Things W w0 (Ts1 ts i A (Sv (some ⟨bb, off, none⟩) L)) → w0.cell? ⟨bb, off + k * 3, none⟩ = some (.int .i64 L[k].1) ∧ w0.cell? ⟨bb, off + k * 3 + 1, none⟩ = some (.int .i64 L[k].2.1)) := fun w0 A h0 => by
        obtain ⟨b', o', e, _, x1, x2, _⟩ := h0.sps ts.length ts1_s k hlt
        simp only [Option.some.injEq, Addr.mk.injEq] at e
        obtain ⟨rfl, rfl, _⟩ := e
        exact ⟨x1, x2⟩
      obtain ⟨b1, b2, b3, b4, b5⟩ := HB.out k hlt
      have hds : d.size = s.size - lenL (L.take k) := by
        have h1 : d.data.toList.length = d.size := len_list d
        rw [← h1, HD.out, List.length_drop, len_list]
      obtain ⟨M, hM⟩ : ∃ M : Nat, L[k].2.1 = M := ⟨L[k].2.1.toNat, by omega⟩
      have hMd : M ≤ d.size := by omega
      have q1 : (d.extract 0 M).data.toList = (s.data.toList.drop (lenL (L.take k))).take L[k].2.1.toNat := by
        have := ext_list d 0 M
        rw [ByteArray.toList_eq] at this
        rw [this, HD.out, hM]
        simp
      have q2 : (d.extract M d.size).data.toList = s.data.toList.drop (lenL (L.take (k + 1))) := by
        have := ext_list d M d.size
        rw [ByteArray.toList_eq] at this
        rw [this, HD.out, b5, hM, List.drop_drop, Int.toNat_natCast]
        apply List.take_of_length_le
        rw [List.length_drop, len_list]
        omega
      have HQ1 := hid q1
      have HQ2 := hid q2
      clear HR HB hc3 q1 q2 b4 b5 hds HD
      generalize L[k] = sk at *
      obtain ⟨s1, s2, s3⟩ := sk
      simp only at hc1 hc2 HC HCS HQ1 hM b1 b2 b3
      subst hM
      have hMd' : (M : Int) ≤ d.size := by omega
      have HC2 := hid fun w0 h0 => HC.out w0 (d.extract 0 M) HQ1.out h0
      clear HC HQ1
      go_wp2_with fail
      go_region_held3 (fun w' => w'.cell? ⟨bb, off + k * 3, none⟩ = some (.int .i64 s1) ∧ w'.cell? ⟨bb, off + k * 3 + 1, none⟩ = some (.int .i64 (M : Int))) (first | exact ⟨by assumption, by assumption⟩ | go_keep) (first | (go_at_call 51; refine (HC2.out _ (T2.out.kept (Fr.refl _ _).drew)).mono ?_; rintro e w3 ⟨rfl, h3⟩; have T3 := hid h3; obtain ⟨e1, e2⟩ := HCS.out _ _ h3; clear h3))
      clear HC2 HCS T2 hc1 hc2
      go_wp2
      go_roundw
      case rel => exact ⟨k + 1, _, by omega, by go_num, rfl, HQ2, T3⟩
      case measure => simp [intOf]; omega
    · obtain rfl : L.length = k := by omega
      have T3 : Hid (Things W wr (ts.set i (Am 51 r (wrB bs L s.data.toList) (ss ++ tch L true)))) := by
        have := T2.out.less
        rw [List.take_length] at this
        exact this
      clear HR T2 HB
      go_wp2
      go_ret
      exact ⟨by simp, T3.out⟩
end
end Go.Proofs.Ytcajdbklchjkkaa
