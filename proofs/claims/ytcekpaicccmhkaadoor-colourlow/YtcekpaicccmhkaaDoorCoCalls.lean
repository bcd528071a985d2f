/-
  Maps that are made: New, Copy.
-/
import Derived.Test.YtcekpaicccmhkaaDoorCoCallsD
import Derived.Test.YtcekpaicccmhkaaDoorCoCallsE
import Derived.Deep.RegionLaw
namespace Go.Proofs.YtcekpaicccmhkaaDoor
open Go.RowKit

theorem c_new_no {n k : Int} (h : ¬ Cfg n k) (w : World) : Calls Tryd.prog 8 #[.agg #[.int .i64 n, .int .i64 k]] w fun e w' => e = .returned (.tuple #[.pointer none, .int .i64 12]) ∧ Fr (fun _ => False) w w' := by
  have H1 := hid fun w => c_check n k w
  rw [if_neg h] at H1
  have A := Cf.new w n k
  have c0 := A.c0
  have c1 := A.c1
  clear A h
  go_enter Tryd.func8, Tryd.ntmps8
  go_wp2_with fail
  refine (H1.out _).mono ?_
  rintro e w1 ⟨rfl, f1⟩
  have HF := hid (((Fr.refl (fun _ => False) w).alloc _).trans f1)
  clear f1
  go_wp2
  go_ret2
  exact ⟨by simp, HF.out⟩
/-- A map that has no shelf yet. -/
theorem Cj.none {w w1 : World} (f : Fr (fun _ => False) w w1) (g : Sf.Tab w) (m : Nat) (A B : Nat → Nat) (col : Nat → List Bool) : Cj (w1.alloc (.cells #[.int .i64 (m : Int), .slice none 0 0] 59)) w.heap.size w1.heap.size (.slice none 0 0) m 0 A B col :=
  ⟨heap_alloc_new _ _, World.ownsRow_nil _ _ _ _, fun i hi => by omega, fun i hi => by omega, by simp [Value.ownBlock], ⟨f.size, fun i hi => by omega⟩, g.pos, g.carry (f.alloc _) id⟩
set_option maxHeartbeats 1000000 in
theorem c_new {n k : Nat} (h : Cfg n k) (w : World) (g : Gr w) : Calls Tryd.prog 8 #[.agg #[.int .i64 (n : Int), .int .i64 (k : Int)]] w fun e w' => ∃ a Z, e = .returned (.tuple #[.pointer (some ⟨a, 0, none⟩), .int .i64 0]) ∧ (∀ i, Z i → w.heap.size ≤ i) ∧ Cm w' a Z k (List.replicate n false) ∧ Fr (fun _ => False) w w' := by
  have H1 := hid fun w => c_check n k w
  rw [if_pos h] at H1
  unfold Cfg at h
  obtain ⟨m, hm⟩ : ∃ m : Nat, n = m * k := ⟨n / k, (Nat.div_mul_cancel (Nat.dvd_of_mod_eq_zero (by omega))).symm⟩
  have hk0 : 0 < k := by omega
  have hmk : n / k = m := by rw [hm]; exact Nat.mul_div_cancel _ hk0
  have hml : m ≤ 4096 := by have := Nat.le_mul_of_pos_right m hk0; omega
  have hdiv : Int.tdiv (n : Int) (k : Int) = (m : Int) := by rw [Int.tdiv_eq_ediv_of_nonneg (by omega), ← hmk]; simp
  have hz : ((k : Int) == 0) = false := by simp; omega
  have hw0 : IntKind.i64.wrap (m : Int) = (m : Int) := by rw [IntKind.wrap_i64]; omega
  have HM := hid hm
  have hk2 : k ≤ 32 := by omega
  have HN : Hid (n ≤ 4096) := by show _ ≤ _; omega
  have HG := hid g
  have HA := hid (Cf.new w n k)
  have c0 := HA.out.c0
  have c1 := HA.out.c1
  clear h hm hmk g
  go_enter Tryd.func8, Tryd.ntmps8
  go_wp2_with fail
  refine (H1.out _).mono ?_
  rintro e w1 ⟨rfl, f1⟩
  have HF := hid (((Fr.refl (fun _ => False) w).alloc _).trans f1)
  have A1 := HA.out.kept f1
  clear f1 c0 c1 H1
  have c0 := A1.c0
  have c1 := A1.c1
  have c2 := (A1.alloc (.cells #[.int .i64 (m : Int), .slice none 0 0] 59)).c1
  clear A1 HA
  go_wp2
  clear hdiv hz hw0 c0 c1 c2
  have HJ := hid (Cj.none HF.out HG.out m (fun _ => 0) (fun _ => 0) (fun _ => List.replicate m false))
  have HW : Hid (Fr (fun x => w.heap.size ≤ x) w (w1.alloc (.cells #[.int .i64 (m : Int), .slice none 0 0] 59))) := (HF.out.mono fun _ _ e => e.elim).alloc _
  generalize w1.heap.size = a at *
  go_loopw [6, 7, 22] (fun _ _ i wr => ∃ (j : Nat) (v : Value) (A B : Nat → Nat) (col : Nat → List Bool), j ≤ k ∧ i = .int .i64 j ∧ Cj wr w.heap.size a v m j A B col ∧ (∀ q, q < j → col q = List.replicate m false) ∧ Fr (fun x => w.heap.size ≤ x) w wr) (fun _ _ i _ => k - (intOf i).toNat)
  case atStart => exact ⟨0, _, _, _, _, by omega, rfl, HJ.out, fun q hq => by omega, HW.out⟩
  case round =>
    obtain ⟨j, v, A, B, col, hj, rfl, hjj, hcol, hf⟩ := hrel
    have HJ2 := hid hjj
    have HC := hid hcol
    have HF2 := hid hf
    clear hjj hcol hf HJ HW HF
    by_cases hlt : j < k
    · have c0 := HJ2.out.c0
      have HN2 := hid fun wr (t : Sf.Tab wr) => Sf.new_ok m wr (by omega) t
      go_wp2_with fail
      refine (HN2.out _ HJ2.out.tab).mono ?_
      rintro e w2 ⟨rfl, hs2, f2⟩
      have hsz := HF2.out.size
      have hsz2 := f2.size
      have HK := hid (HJ2.out.kept f2)
      have HS := hid hs2
      have HF3 := hid (HF2.out.trans (f2.mono fun _ _ e => e.elim))
      have HNW : Hid (∀ x, Blk a v j A B x → x ≠ wr.heap.size + 1 ∧ x ≠ wr.heap.size) := fun x hx => by
        have := (HJ2.out.low hx).2
        exact ⟨by omega, by omega⟩
      clear hs2 f2 c0
      have c1 := HK.out.c1
      go_wp2_with (at_builtin; refine wpList_ptr rfl (.tmp 39) (.tmp 41) rfl HK.out HS.out HNW.out ⟨by omega, by omega⟩ (by omega) rfl rfl ?_; intro g3 cap3 w3 hgr; have c13 := hgr.1; have f13 := hgr.2.1; have HR := hid hgr.2.2; clear hgr)
      go_roundw
      case rel => exact ⟨j + 1, _, _, _, _, by omega, by go_num, HR.out.1, fun q hq => by
        by_cases e : q = j
        · subst e; exact upd_same _ _ _
        · rw [upd_low _ _ (by omega)]; exact HC.out q (by omega), Fr.trans' HF3.out HR.out.2.1 (fun x _ e => by
          rcases e with rfl | e
          · exact HK.out.lo.1
          · exact (HK.out.row.lt x e).1)⟩
      case measure => simp [intOf]; omega
    · obtain rfl : j = k := by omega
      obtain ⟨g, cap, rfl⟩ : ∃ g cap, v = .slice (some ⟨g, 0, none⟩) j cap := by
        rcases HJ2.out.row.2 with ⟨h0, h2⟩ | ⟨g, cap, _, h2, _⟩
        · omega
        · exact ⟨g, cap, h2⟩
      have HM2 := hid (Cm.made (has := List.replicate n false) HJ2.out (fun i hi => by rw [HC.out i hi, HM.out, colL_rep j m i hi]) (by simpa using HM.out) hk0 hk2 (by simpa using HN.out))
      go_wp2
      go_ret2
      obtain ⟨Z, hZ, hM⟩ := HM2.out
      exact ⟨a, Z, by simp, hZ, hM, HF2.out.new⟩
set_option maxHeartbeats 2000000 in
theorem c_copy {w : World} {a k : Nat} {Z : Nat → Prop} {has : List Bool} (h : Cm w a Z k has) : Calls Tryd.prog 17 #[.pointer (some ⟨a, 0, none⟩)] w fun e w' => ∃ a' Z', e = .returned (.pointer (some ⟨a', 0, none⟩)) ∧ (∀ i, Z' i → w.heap.size ≤ i) ∧ Cm w' a' Z' k has ∧ Fr (fun _ => False) w w' := by
  obtain ⟨g, c, m, A, B, h1, h2, h3, h4, h5, h6, h7⟩ := h
  have HS0 := hid h1
  have HL := hid h2
  have HN := hid h5
  have c0 := h1.c0
  have c1 := h1.c1
  have c2 := (h1.kept ((Fr.refl (fun _ => False) w).alloc (.cells #[.int .i64 (m : Int), .slice none 0 0] 59))).c1
  clear h1 h2 h5 h6 h7
  go_enter Tryd.func17, Tryd.ntmps17
  go_wp2
  clear c0 c1 c2
  have HJ := hid (Cj.none (Fr.refl (fun _ => False) w) HS0.out.tab m (fun _ => 0) (fun _ => 0) (colL k m has))
  have HW : Hid (Fr (fun x => w.heap.size ≤ x) w (w.alloc (.cells #[.int .i64 (m : Int), .slice none 0 0] 59))) := (Fr.refl _ _).alloc _
  obtain ⟨a2, ha2⟩ : ∃ a2, w.heap.size = a2 := ⟨_, rfl⟩
  rw [ha2] at HJ
  simp only [ha2]
  go_loopw [5, 19] (fun _ i wr => ∃ (j : Nat) (v : Value) (A' B' : Nat → Nat) (col : Nat → List Bool), j ≤ k ∧ i = .int .i64 j ∧ Cj wr a2 a2 v m j A' B' col ∧ (∀ q, q < j → col q = colL k m has q) ∧ Fr (fun x => w.heap.size ≤ x) w wr) (fun _ i _ => k - (intOf i).toNat)
  case atStart => exact ⟨0, _, _, _, _, by omega, rfl, HJ.out, fun q hq => by omega, HW.out⟩
  case round =>
    obtain ⟨j, v, A', B', col, hj, rfl, hjj, hcol, hf⟩ := hrel
    have HJ2 := hid hjj
    have HC := hid hcol
    have HF2 := hid hf
    clear hjj hcol hf HJ HW
    by_cases hlt : j < k
    · have HSR := hid (HS0.out.kept HF2.out.new)
      have cg := HSR.out.cg hlt
      have c1 := HJ2.out.c1
      have HCP := hid fun wr2 (f : Fr (fun _ => False) wr wr2) => Sf.s_copy ((HSR.out.kept f).sh j hlt)
      have hsz := HF2.out.size
      generalize A j = x at *
      go_wp2_with fail
      go_region_law (first | (go_simp; go_at_call 33; refine (HCP.out _ (Fr.refl _ _).drew).mono ?_; rintro e w2 ⟨sa, sb, rfl, hs2, f2, l1, l2⟩; have HS := hid hs2; have HFF := hid ((Fr.refl (fun _ => False) wr).drew.trans f2); clear hs2 f2; have HK := hid (HJ2.out.kept HFF.out); have c1' := HK.out.c1; have c1'' := (HK.out.kept ((Fr.refl (fun _ => False) w2).alloc (.cells #[.pointer (some ⟨sa, 0, none⟩)] 60))).c1; have HNW : Hid (∀ x, Blk a2 v j A' B' x → x ≠ sa ∧ x ≠ sb) := (fun x hx => (by have := (HJ2.out.low hx).2; have l1' : wr.heap.size ≤ sa := l1; have l2' : wr.heap.size ≤ sb := l2; exact ⟨by omega, by omega⟩))) | (refine step_ptr (by rfl) _ _ (by rfl) HK.out HS.out HNW.out ⟨(by have l1' : wr.heap.size ≤ sa := l1; omega), (by have l2' : wr.heap.size ≤ sb := l2; omega)⟩ (by omega) (by rfl) (by rfl) ?_; intro g3 cap3 w3 hgr; have c13 := hgr.1; have f13 := hgr.2.1; have HR := hid hgr.2.2; clear hgr))
      all_goals
        go_wp2
        go_roundw
        case rel => exact ⟨j + 1, _, _, _, _, by omega, by go_num, HR.out.1, (fun q hq => by
          by_cases e : q = j
          · subst e; exact upd_same _ _ _
          · rw [upd_low _ _ (by omega)]; exact HC.out q (by omega)), Fr.trans' (HF2.out.trans (HFF.out.mono fun _ _ e => e.elim)) HR.out.2.1 (fun x _ e => by
            rcases e with rfl | e
            · omega
            · have := (HK.out.row.lt x e).1
              omega)⟩
        case measure => simp [intOf]; omega
    · obtain rfl : j = k := by omega
      obtain ⟨g', cap', rfl⟩ : ∃ g cap, v = .slice (some ⟨g, 0, none⟩) j cap := by
        rcases HJ2.out.row.2 with ⟨h0, h2⟩ | ⟨g, cap, _, h2, _⟩
        · omega
        · exact ⟨g, cap, h2⟩
      have HM2 := hid (Cm.made (has := has) HJ2.out HC.out HL.out h3 h4 HN.out)
      go_wp2
      go_ret
      obtain ⟨Z', hZ, hM⟩ := HM2.out
      exact ⟨a2, Z', by simp, fun i hi => by rw [ha2]; exact hZ i hi, hM, HF2.out.new⟩
end Go.Proofs.YtcekpaicccmhkaaDoor
