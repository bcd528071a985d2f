/-
  What the document's own table answers: Pieces.
  What the document's own table answers: Pieces, walked.
-/
import Derived.Test.YtcajdbklchjkkaaTaRefA
import Derived.Test.YtcajdbklchjkkaaSpRow
namespace Go.Proofs.Ytcajdbklchjkkaa
open Go.RowKit

section
variable {w wr : World} {y : Value} {L : List Sq}
theorem Gr3.rt (h : Gr3 w wr y L) {base q : Nat} {v : Value} {T : Tb} (k : Rtb w base q v T) : Rtb wr base q v T := k.carry h.fr (by have := k.ltr; omega) fun x e => by have := (k.row.lt x e).2; omega
end
set_option maxRecDepth 20000 in
theorem f_within (a n : Int) (w : World) : Calls Try.prog 64 #[.int .i64 a, .int .i64 n] w fun e w' => e = .returned (.bool (decide (InWt a n))) ∧ w' = w := by
  by_cases h0 : n < 0
  · rw [decide_eq_false (show ¬ InWt a n by omega)]
    go_enter Try.func64, Try.ntmps64
    go_wp2
    go_ret
    exact ⟨by simp, rfl⟩
  by_cases h1 : a < 131072
  · rw [decide_eq_false (show ¬ InWt a n by omega)]
    go_enter Try.func64, Try.ntmps64
    go_wp2
    go_ret
    exact ⟨by simp, rfl⟩
  by_cases h2 : 3276800 < a
  · rw [decide_eq_false (show ¬ InWt a n by omega)]
    go_enter Try.func64, Try.ntmps64
    go_wp2
    go_ret
    exact ⟨by simp, rfl⟩
  have t1 : IntKind.i64.wrap (3276800 - a) = 3276800 - a := by rw [IntKind.wrap_i64]; omega
  have e1 : decide (InWt a n) = decide (n ≤ 3276800 - a) := decide_eq_decide.2 (by omega)
  rw [e1]
  clear e1
  go_enter Try.func64, Try.ntmps64
  go_wp2
  go_ret
  exact ⟨by simp, rfl⟩
end Go.Proofs.Ytcajdbklchjkkaa

namespace Go.Proofs.Ytcajdbklchjkkaa
open Go.RowKit

set_option maxRecDepth 20000 in
set_option maxHeartbeats 2000000 in
theorem f_pieces {w : World} {base q : Nat} {v : Value} {T : Tb} (h : Rtb w base q v T) (ok : TbOk T) {a n : Int} (hn : n ≤ 16384) : Calls Try.prog 60 #[.pointer (some ⟨q, 0, none⟩), .int .i64 a, .int .i64 n] w fun e w' => ∃ ad cap, e = .returned (.tuple #[.slice ad (piL T a n).length cap, .int .i64 (piE T a n)]) ∧ SpAt w' ad (piL T a n) ∧ (∀ b off, ad = some ⟨b, off, none⟩ → 0 < (piL T a n).length → w.heap.size ≤ b) ∧ Fr (fun _ => False) w w' := by
  have HR := hid h
  have HOK := hid ok
  have HW := hid (f_within a n w)
  clear h ok
  by_cases hw : InWt a n
  case neg =>
    obtain ⟨e1, e2⟩ := pi_out (T := T) hw
    rw [e1, e2]
    rw [decide_eq_false hw] at HW
    clear e1 e2 hw
    go_enter Try.func60, Try.ntmps60
    go_wp2_with fail
    refine HW.out.mono ?_
    rintro e w1 ⟨rfl, hw⟩
    obtain rfl := hw.symm
    clear hw
    go_wp2
    go_ret2
    exact ⟨none, 0, by simp, SpAt.nil _ _, (fun b off e => by cases e), Fr.refl _ _⟩
  rw [decide_eq_true hw] at HW
  have HFI : Hid (∀ w0 y L x, Gr3 w w0 y L → Calls Try.prog 53 #[.pointer (some ⟨q, 0, none⟩), .int .i64 x] w0 fun e w' => e = .returned (.int .i64 (tbF T x)) ∧ Gr3 w w' y L) := fun w0 y L x hg => (f_find (hg.rt HR.out) x).mono fun _ _ ⟨he, f⟩ => ⟨he, hg.kept f⟩
  have HINW := hid hw
  obtain ⟨N, rfl⟩ : ∃ N : Nat, n = N := ⟨n.toNat, by omega⟩
  have wr1 : IntKind.i64.wrap (a + N) = a + N := by rw [IntKind.wrap_i64]; omega
  obtain ⟨h0, h1, h2, h3⟩ := hw
  go_enter Try.func60, Try.ntmps60
  go_wp2_with fail
  refine HW.out.mono ?_
  rintro e w1 ⟨rfl, hw⟩
  obtain rfl := hw.symm
  clear hw
  go_wp2
  go_loopw [8, 9] (fun y i wr => ∃ (k : Nat) (L : List Sq), k ≤ N ∧ i = .int .i64 (a + k) ∧ pcs T a k = some L ∧ Hid (Gr3 w wr y L)) (fun _ i _ => (a + N - intOf i).toNat)
  case atStart => exact ⟨0, [], by omega, by simp, rfl, Gr3.start w⟩
  case round =>
    obtain ⟨k, L, hk, rfl, hp, HG⟩ := hrel
    have HP := hid hp
    have HPC := hid (pcs_ok (by omega) k L hp)
    have hLl : L.length ≤ k := by
      have hs := HPC.out.sum
      have : ∀ M : List Sq, (∀ j (h : j < M.length), 1 ≤ M[j].2.1) → (M.length : Int) ≤ (M.map fun s => s.2.1).sum := by
        intro M
        induction M with
        | nil => intro _; simp
        | cons s r ih =>
          intro hall
          have h0 := hall 0 (by simp)
          have := ih fun j hj => by have := hall (j + 1) (by simpa using hj); simpa using this
          simp at h0 ⊢
          omega
      have h2 := this _ fun j hj => (HPC.out.all j hj).2.1
      omega
    clear hp
    by_cases hlt : k < N
    · have hlt' : a + k < a + N := by omega
      have d1 : Int.tdiv (a + k) 512 = (a + k) / 512 := Int.tdiv_eq_ediv_of_nonneg (by omega)
      have d2 : IntKind.i64.wrap ((a + k) / 512) = (a + k) / 512 := by rw [IntKind.wrap_i64]; omega
      have d3 : Int.tmod (a + k) 512 = (a + k) % 512 := Int.tmod_eq_emod_of_nonneg (by omega)
      have d4 : IntKind.i64.wrap ((a + k) % 512) = (a + k) % 512 := by rw [IntKind.wrap_i64]; omega
      have d5 : IntKind.i64.wrap (a + k + 1) = a + k + 1 := by rw [IntKind.wrap_i64]; omega
      have HC := hid fun w0 y L h => HFI.out w0 y L ((a + k) / 512) h
      have hfr := HOK.out.f_range ((a + k) / 512)
      clear HFI HW
      by_cases hf : tbF T ((a + k) / 512) < 0
      · have hnone : pcs T a (N : Int).toNat = none := pcs_stop hf (by omega)
        have E := hid (pi_none hnone)
        clear hnone hfr HPC HP
        generalize tbF T ((a + k) / 512) = f at *
        go_wp2_with fail
        refine (HC.out _ _ _ HG.out).mono ?_
        rintro e w2 ⟨rfl, h2⟩
        have HG2 := hid h2
        clear h2 HG HC
        go_wp2
        go_ret2
        exact ⟨none, 0, by rw [E.out.1, E.out.2]; simp, by rw [E.out.1]; exact SpAt.nil _ _, (fun b off e => by cases e), Fr.new HG2.out.fr⟩
      have e5 : IntKind.i64.wrap (tbF T ((a + k) / 512) * 512) = tbF T ((a + k) / 512) * 512 := by rw [IntKind.wrap_i64]; omega
      have e6 : IntKind.i64.wrap (tbF T ((a + k) / 512) * 512 + (a + k) % 512) = tbF T ((a + k) / 512) * 512 + (a + k) % 512 := by rw [IntKind.wrap_i64]; omega
      have hr0 : 0 ≤ (a + k) % 512 := by omega
      by_cases hk0 : k = 0
      · have HP2 := hid (pcs_new HP.out hf (.inl hk0))
        have hb : ((a + (k : Int)) == a) = true := by simp; omega
        clear HP HPC hfr hk0
        generalize hi : a + (k : Int) = i at *
        have HI := hid hi
        clear hi
        generalize tbF T (i / 512) = f at *
        generalize i / 512 = pg at *
        generalize i % 512 = r at *
        obtain ⟨ad, cap, rfl⟩ := HG.out.form
        go_wp2_with fail
        refine (HC.out _ _ _ HG.out).mono ?_
        rintro e w2 ⟨rfl, h2⟩
        have HG2 := hid h2
        clear h2 HG HC
        go_wp2_with (at_builtin; refine push3 (x := (f * 512 + r, 0, false)) rfl (.tmp 37) (.tmp 44) rfl HG2.out rfl rfl (by omega) ?_)
        intro w3 y3 hG3
        obtain ⟨g, cap', rfl, y1, y2, hput⟩ := hG3.last
        have HPUT : Hid (Gr3 w (w3.setCell ⟨g, L.length * 3 + 1, none⟩ (.int .i64 1)) (.slice (some ⟨g, 0, none⟩) (L.length + 1) cap') (L ++ [(f * 512 + r, 1, false)])) := hput 1
        clear hG3 hput HG2
        simp only at y1
        generalize L.length = m at *
        go_wp2
        go_roundw
        case rel => exact ⟨k + 1, _, by omega, by rw [show a + ((k + 1 : Nat) : Int) = i + 1 by rw [← HI.out]; omega], HP2.out, HPUT⟩
        case measure => simp only [intOf]; have := HI.out; omega
      have hb : ((a + (k : Int)) == a) = false := by simp; omega
      by_cases hr1 : (a + k) % 512 = 0
      · have HP2 := hid (pcs_new HP.out hf (.inr hr1))
        have hrb : ((a + (k : Int)) % 512 == 0) = true := by simpa using hr1
        clear HP HPC hfr hk0 hr1
        generalize hi : a + (k : Int) = i at *
        have HI := hid hi
        clear hi
        generalize tbF T (i / 512) = f at *
        generalize i / 512 = pg at *
        generalize i % 512 = r at *
        obtain ⟨ad, cap, rfl⟩ := HG.out.form
        go_wp2_with fail
        refine (HC.out _ _ _ HG.out).mono ?_
        rintro e w2 ⟨rfl, h2⟩
        have HG2 := hid h2
        clear h2 HG HC
        go_wp2_with (at_builtin; refine push3 (x := (f * 512 + r, 0, false)) rfl (.tmp 37) (.tmp 44) rfl HG2.out rfl rfl (by omega) ?_)
        intro w3 y3 hG3
        obtain ⟨g, cap', rfl, y1, y2, hput⟩ := hG3.last
        have HPUT : Hid (Gr3 w (w3.setCell ⟨g, L.length * 3 + 1, none⟩ (.int .i64 1)) (.slice (some ⟨g, 0, none⟩) (L.length + 1) cap') (L ++ [(f * 512 + r, 1, false)])) := hput 1
        clear hG3 hput HG2
        simp only at y1
        generalize L.length = m at *
        go_wp2
        go_roundw
        case rel => exact ⟨k + 1, _, by omega, by rw [show a + ((k + 1 : Nat) : Int) = i + 1 by rw [← HI.out]; omega], HP2.out, HPUT⟩
        case measure => simp only [intOf]; have := HI.out; omega
      · have HP2 := hid (pcs_more HP.out hf (by omega))
        have hrb : ((a + (k : Int)) % 512 == 0) = false := by simpa using hr1
        obtain ⟨L0, s, rfl, hs1, hs2⟩ : ∃ L0 s, L = L0 ++ [s] ∧ 1 ≤ s.2.1 ∧ s.2.1 ≤ 512 := by
          rcases HPC.out.last with ⟨e, _⟩ | ⟨L0, s, e, _, _⟩
          · omega
          · subst e
            obtain ⟨b1, b2, b3, _⟩ := HPC.out.all L0.length (by simp)
            simp only [List.getElem_concat_length] at b1 b2 b3
            exact ⟨L0, s, rfl, b2, by omega⟩
        rw [bump_snoc] at HP2
        have hm : L0.length + 1 ≤ k := by have := hLl; simpa using this
        clear HP HPC hfr hk0 hr1 hLl
        generalize hi : a + (k : Int) = i at *
        have HI := hid hi
        clear hi
        generalize tbF T (i / 512) = f at *
        generalize i / 512 = pg at *
        generalize i % 512 = r at *
        obtain ⟨s1, s2, s3⟩ := s
        simp only at hs1 hs2 HP2
        have e9 : IntKind.i64.wrap (s2 + 1) = s2 + 1 := by rw [IntKind.wrap_i64]; omega
        obtain ⟨ad, cap, rfl⟩ := HG.out.form
        rw [List.length_append] at *
        go_wp2_with fail
        refine (HC.out _ _ _ HG.out).mono ?_
        rintro e w2 ⟨rfl, h2⟩
        obtain ⟨g, cap', e, y1, y2, hput⟩ := h2.last
        simp only [Value.slice.injEq] at e
        obtain ⟨rfl, _, rfl⟩ := e
        have HPUT : Hid (Gr3 w (w2.setCell ⟨g, L0.length * 3 + 1, none⟩ (.int .i64 (s2 + 1))) (.slice (some ⟨g, 0, none⟩) (L0.length + [(s1, s2, s3)].length) cap) (L0 ++ [(s1, s2 + 1, s3)])) := hput (s2 + 1)
        clear h2 hput HG HC
        simp only [List.length_singleton] at *
        generalize L0.length = m at *
        go_wp2
        go_roundw
        case rel => exact ⟨k + 1, _, by omega, by rw [show a + ((k + 1 : Nat) : Int) = i + 1 by rw [← HI.out]; omega], HP2.out, HPUT⟩
        case measure => simp only [intOf]; have := HI.out; omega
    · obtain rfl : N = k := by omega
      have E := hid (pi_yes HINW.out (L := L) (by simpa using HP.out))
      obtain ⟨ad, cap, rfl⟩ := HG.out.form
      have HSP := hid HG.out.spans
      clear HP HPC HFI HW
      go_wp2
      go_ret2
      exact ⟨ad, cap, by rw [E.out.1, E.out.2]; simp, by rw [E.out.1]; exact HSP.out.1, by rw [E.out.1]; exact HSP.out.2, Fr.new HG.out.fr⟩
end Go.Proofs.Ytcajdbklchjkkaa
