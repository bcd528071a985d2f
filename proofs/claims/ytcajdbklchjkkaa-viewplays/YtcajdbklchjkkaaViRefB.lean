/-
  What the document's view answers, and leaves: Read, Write, Zero, Copy.
-/
import Derived.Test.YtcajdbklchjkkaaViRef
namespace Go.Proofs.Ytcajdbklchjkkaa
open Go.RowKit
open An

theorem noted_more {ss : List Sp} {p m : Nat} (hm : 0 < m) (b : Bool) : noted ss p m b = ss ++ [((p : Int), (m : Int), b)] := if_pos (by omega)
/-- Things, of which the one at i has turned, and two new ones behind them. -/
abbrev Ts2 (ts : List (World → (Nat → Prop) → Prop)) (i : Nat) (A S R : World → (Nat → Prop) → Prop) : List (World → (Nat → Prop) → Prop) := (ts.set i A ++ [S]) ++ [R]
section
variable {ts : List (World → (Nat → Prop) → Prop)} {i : Nat} {A A' S R R' : World → (Nat → Prop) → Prop}
theorem ts2_a (h : i < ts.length) : (Ts2 ts i A S R)[i]? = some A := append_at (append_at (by simp [h]))
theorem ts2_s : (Ts2 ts i A S R)[ts.length]? = some S := append_at (by simp)
theorem ts2_r : (Ts2 ts i A S R)[ts.length + 1]? = some R := by simp [Ts2]
theorem ts2_seta (h : i < ts.length) : (Ts2 ts i A S R).set i A' = Ts2 ts i A' S R := by
  unfold Ts2
  rw [set_app (by simp; omega), set_app (by simp; omega), List.set_set]
theorem ts2_setr : (Ts2 ts i A S R).set (ts.length + 1) R' = Ts2 ts i A S R' := by simp [Ts2]
end
section
variable {W w : World} {ts : List (World → (Nat → Prop) → Prop)} {r base q : Nat} {bs : List UInt8} {ss : List Sp} {T : Tb}
set_option maxRecDepth 20000 in
set_option maxHeartbeats 4000000 in
theorem d_read (h : Things W w ts) (i j : Nat) (hi : ts[i]? = some (Am 51 r bs ss)) (hj : ts[j]? = some (Dt base q T)) (ok : TbOk T) (hbs : bs.length ≤ 2097152) (hss : ss.length ≤ 900000) {x n : Int} (hn : n ≤ 16384) : Calls Try.prog 25 #[.pointer (some ⟨r, 0, none⟩), .pointer (some ⟨q, 0, none⟩), .int .i64 x, .int .i64 n] w fun e w' => e = .returned (.tuple #[.string ⟨(vrV T bs x n).toArray⟩, .int .i64 (vwE T bs.length x n)]) ∧ Things W w' (ts.set i (Am 51 r bs (vrT T bs.length ss x n))) := by
  have HP := hid (d_pieces h i j hi hj ok hbs (x := x) hn)
  obtain ⟨ha, hl34, hl16⟩ := vwL_facts ok (N := bs.length) (x := x) hn
  have HA := hid ha
  have eV : vrV T bs x n = rdB bs (vwL T bs.length x n) := by unfold vrV vwL; split <;> rfl
  have eT : vrT T bs.length ss x n = ss ++ tch (vwL T bs.length x n) false := by
    unfold vrT vwL
    split
    · rfl
    · simp [tch]
  rw [eV, eT]
  have hil := ltAt hi
  have HT0 : Hid (ts.set i (Am 51 r bs ss) = ts) := set_same hi
  clear h hj ok ha eV eT hi
  generalize vwE T bs.length x n = ev at *
  generalize vwL T bs.length x n = L at *
  go_enter Try.func25, Try.ntmps25
  go_wp2_with fail
  refine HP.out.mono ?_
  rintro e w1 ⟨ad, cap, rfl, h1⟩
  have T1 : Hid (Things W (w1.alloc (.cells #[] 5)) (Ts2 ts i (Am 51 r bs (ss ++ tch (L.take 0) false)) (Sv ad L) (Rb W.heap.size (.slice (some ⟨w1.heap.size, 0, none⟩) 0 0) (rdB bs (L.take 0))))) := by
    have := h1.newBytes
    show Things _ _ _
    rw [List.take_zero, show tch [] false = [] from rfl, List.append_nil]
    unfold Ts2
    rw [HT0.out]
    exact this
  clear h1 HP HT0
  have HR : Hid (∀ k (hk : k < L.length) w0 R, Things W w0 (Ts2 ts i (Am 51 r bs (ss ++ tch (L.take k) false)) (Sv ad L) R) → Calls Try.prog 50 #[.pointer (some ⟨r, 0, none⟩), .int .i64 L[k].1, .int .i64 L[k].2.1] w0 fun e w' => e = .returned (.tuple #[.string ⟨((bs.drop L[k].1.toNat).take L[k].2.1.toNat).toArray⟩, .int .i64 0]) ∧ Things W w' (Ts2 ts i (Am 51 r bs (ss ++ tch (L.take (k + 1)) false)) (Sv ad L) R)) := fun k hk w0 R h0 => by
    obtain ⟨p1, p2, p3, p4⟩ := HA.out.at hk
    have := ra_read h0 i (ts2_a hil) L[k].1.toNat L[k].2.1.toNat p1 (by rw [List.length_append, tch_length, List.length_take]; omega)
    rw [p2, p3] at this
    refine this.mono fun e w' ⟨he, h2⟩ => ⟨he, ?_⟩
    rw [ts2_seta hil] at h2
    have e2 : noted (ss ++ tch (L.take k) false) L[k].1 L[k].2.1 false = ss ++ tch (L.take (k + 1)) false := by
      rw [← p2, ← p3, noted_more p4, tch_snoc hk, List.append_assoc, p2, p3]
    rw [e2] at h2
    exact h2
  have HL : Hid (∀ k (hk : k < L.length), (rdB bs (L.take k)).length ≤ 16384 ∧ ((bs.drop L[k].1.toNat).take L[k].2.1.toNat).length ≤ 16384 ∧ 0 < ((bs.drop L[k].1.toNat).take L[k].2.1.toNat).length ∧ rdB bs (L.take k) ++ (bs.drop L[k].1.toNat).take L[k].2.1.toNat = rdB bs (L.take (k + 1))) := fun k hk => by
    obtain ⟨p1, p2, p3, p4⟩ := HA.out.at hk
    have ht : Apt bs.length (L.take k) := ⟨fun s hs => HA.out.at_ s (List.mem_of_mem_take hs), HA.out.apart.sublist (List.take_sublist _ _)⟩
    have h1 := lenL_append (L.take k) (L.drop k)
    rw [List.take_append_drop] at h1
    have h2 : lenL (L.drop k) = L[k].2.1.toNat + lenL (L.drop (k + 1)) := by rw [List.drop_eq_getElem_cons hk]; rfl
    refine ⟨by rw [rdB_length ht]; omega, ?_, ?_, (rdB_snoc bs hk).symm⟩ <;> (rw [List.length_take, List.length_drop]; omega)
  have HB : Hid (∀ k (hk : k < L.length), L[k].1 ≤ 4194304 ∧ 0 ≤ L[k].1 ∧ L[k].2.1 ≤ 4194304 ∧ 0 ≤ L[k].2.1) := fun k hk => by
    obtain ⟨p1, p2, p3, p4⟩ := HA.out.at hk
    omega
  clear HA hl16
  go_wp2
  go_loopw [12, 13] (fun y i_ wr => ∃ (k g n0 c : Nat), k ≤ L.length ∧ i_ = .int .i64 k ∧ y = .slice (some ⟨g, 0, none⟩) n0 c ∧ Hid (Things W wr (Ts2 ts i (Am 51 r bs (ss ++ tch (L.take k) false)) (Sv ad L) (Rb W.heap.size (.slice (some ⟨g, 0, none⟩) n0 c) (rdB bs (L.take k)))))) (fun _ i_ _ => L.length - (intOf i_).toNat)
  case atStart => exact ⟨0, _, _, _, by omega, rfl, rfl, T1⟩
  case round =>
    obtain ⟨k, g, n0, c, hk, rfl, rfl, T2⟩ := hrel
    clear T1
    by_cases hlt : k < L.length
    · obtain ⟨bb, off, rfl, hbb, hc1, hc2, hc3⟩ := T2.out.sps ts.length ts2_s k hlt
      have HC := hid fun w0 R h0 => HR.out k hlt w0 R h0
      have HCS : Hid (∀ w0 A R, Things W w0 (Ts2 ts i A (Sv (some ⟨bb, off, none⟩) L) R) → w0.cell? ⟨bb, off + k * 3, none⟩ = some (.int .i64 L[k].1) ∧ w0.cell? ⟨bb, off + k * 3 + 1, none⟩ = some (.int .i64 L[k].2.1)) := fun w0 A R h0 => by
        obtain ⟨b', o', e, _, x1, x2, _⟩ := h0.sps ts.length ts2_s k hlt
        simp only [Option.some.injEq, Addr.mk.injEq] at e
        obtain ⟨rfl, rfl, _⟩ := e
        exact ⟨x1, x2⟩
      obtain ⟨l1, l2, l3, l4⟩ := HL.out k hlt
      have HL4 := hid l4
      obtain ⟨b1, b2, b3, b4⟩ := HB.out k hlt
      clear HR HL HB l4 hc3
      generalize L[k] = s at *
      obtain ⟨s1, s2, s3⟩ := s
      simp only at hc1 hc2 HC HCS l2 l3 HL4 b1 b2 b3 b4
      generalize rdB bs (L.take k) = ds at *
      generalize (bs.drop s1.toNat).take s2.toNat = es at *
      go_wp2_with fail
      go_region_held3 (fun w' => w'.cell? ⟨bb, off + k * 3, none⟩ = some (.int .i64 s1) ∧ w'.cell? ⟨bb, off + k * 3 + 1, none⟩ = some (.int .i64 s2)) (first | exact ⟨by assumption, by assumption⟩ | go_keep) (first | (go_at_call 50; refine (HC.out _ _ (T2.out.kept (Fr.refl _ _).drew)).mono ?_; rintro e w3 ⟨rfl, h3⟩; have T3 := hid h3; obtain ⟨e1, e2⟩ := HCS.out _ _ _ h3; clear h3))
      obtain ⟨g', c', w4, hrun, h4⟩ := T3.out.appStr (ts.length + 1) ts2_r ⟨es.toArray⟩ (by show 0 < es.toArray.size; simpa using l3) (by show ds.length + es.toArray.size ≤ 1000000; simp; omega) 49
      rw [ts2_setr] at h4
      have T4 : Hid (Things W w4 (Ts2 ts i (Am 51 r bs (ss ++ tch (L.take (k + 1)) false)) (Sv (some ⟨bb, off, none⟩) L) (Rb W.heap.size (.slice (some ⟨g', 0, none⟩) (ds.length + (ByteArray.mk es.toArray).size) c') (rdB bs (L.take (k + 1)))))) := by
        show Things _ _ _
        rw [← HL4.out]
        simpa using h4
      clear h4 T3 HC HCS T2 e1 e2 hc1 hc2
      generalize (ByteArray.mk es.toArray).size = esz at *
      go_wp2_with (at_builtin; refine wpList_app rfl (.tmp 46) (.tmp 47) _ _ rfl rfl rfl hrun ?_)
      go_wp2
      go_roundw
      case rel => exact ⟨k + 1, g', _, c', by omega, by go_num, rfl, T4⟩
      case measure => simp [intOf]; omega
    · obtain rfl : L.length = k := by omega
      have hcv := T2.out.bytesText (ts.length + 1) ts2_r
      rw [List.take_length] at hcv
      have T3 : Hid (Things W wr (ts.set i (Am 51 r bs (ss ++ tch L false)))) := by
        have := T2.out.less.less
        rw [List.take_length] at this
        exact this
      clear HR HL HB T2
      go_wp2
      go_ret2
      exact ⟨by simp, T3.out⟩
end
end Go.Proofs.Ytcajdbklchjkkaa
