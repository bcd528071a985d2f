/-
  What the calls of package table do: piece, Pieces.
-/
import Derived.Test.YtcajdbklchjkkaaTaCallsB
import Derived.Test.YtcajdbklchjkkaaSpRow
import Derived.LoopTactic
import Derived.Deep.RegionHeld3
namespace Go.Proofs.Ytcajdbklchjkkaa
open Go.RowKit

section
variable {w w0 : World} {t : Nat} {Z : Nat → Prop} {T : Tb} {m1 m2 : Option Nat}
theorem Gr3.cap_le {w0 : World} {ad : Option Addr} {n cap : Nat} {L : List Sq} (h : Gr3 w w0 (.slice ad n cap) L) : L.length ≤ cap := by
  rcases h.row.2 with ⟨e, e2⟩ | ⟨g, c, cur, e, _, _, h3, _⟩
  · omega
  · simp only [Value.slice.injEq] at e
    omega
theorem fF_find (ok : TbOk T) (v : Int) : (fF T v).getD (-1) = tbF T v := (fF_get ok v).symm
set_option maxRecDepth 20000 in
theorem u_piece_no (c : Tw w t m1 m2) (o : Og w m1 (fF T) T.length) (ok : TbOk T) {p r n : Int} (hp : 0 ≤ p ∧ p < 6400) (hf : tbF T p < 0) : Calls Try.prog 45 #[.pointer (some ⟨t, 0, none⟩), .complex .f64 (floatOfInt .f64 p) (floatOfInt .f64 r), .int .i64 n] w fun e w' => e = .returned (.tuple #[.agg #[.int .i64 0, .int .i64 0, .bool false], .int .i64 4]) ∧ Fr (fun _ => False) w w' := by
  have H1 := hid (u_find (c.carry (S := fun _ => False) ((Fr.refl _ w).alloc (.cells #[.int .i64 0, .int .i64 0, .bool false] 65)) id) (o.carry (S := fun _ => False) ((Fr.refl _ w).alloc (.cells #[.int .i64 0, .int .i64 0, .bool false] 65)) fun _ _ => id) (k := p) ⟨by omega, by omega⟩)
  rw [fF_find ok, (ok.f_none hf).1] at H1
  have v1 := Pt.conv_f _ p (fb_int p (by omega))
  change ∀ w, (convert 109 3 (.float .f64 (floatOfInt .f64 p))).run Try.prog w = .ok (.int .i64 p) w at v1
  clear c o ok hf hp
  go_enter Try.func45, Try.ntmps45
  go_wp2_with fail
  refine H1.out.mono ?_
  rintro e w1 ⟨rfl, hw⟩
  obtain rfl := hw.symm
  go_wp2
  exact bodyPost_ret (v := .tuple #[.agg #[.int .i64 0, .int .i64 0, .bool false], .int .i64 4]) (by simp [results, Try.results45, go_sem]) rfl ⟨rfl, (Fr.refl _ w).alloc _⟩
set_option maxRecDepth 20000 in
theorem u_piece (c : Tw w t m1 m2) (o : Og w m1 (fF T) T.length) (ok : TbOk T) {p r n : Int} (hp : 0 ≤ p ∧ p < 6400) (hr : 0 ≤ r ∧ r < 512) (hf : ¬ tbF T p < 0) : Calls Try.prog 45 #[.pointer (some ⟨t, 0, none⟩), .complex .f64 (floatOfInt .f64 p) (floatOfInt .f64 r), .int .i64 n] w fun e w' => e = .returned (.tuple #[.agg #[.int .i64 (tbF T p * 512 + r), .int .i64 (if n < 512 - r then n else 512 - r), .bool false], .int .i64 0]) ∧ Fr (fun _ => False) w w' := by
  have H1 := hid (u_find (c.carry (S := fun _ => False) ((Fr.refl _ w).alloc (.cells #[.int .i64 0, .int .i64 0, .bool false] 65)) id) (o.carry (S := fun _ => False) ((Fr.refl _ w).alloc (.cells #[.int .i64 0, .int .i64 0, .bool false] 65)) fun _ _ => id) (k := p) ⟨by omega, by omega⟩)
  rw [fF_find ok] at H1
  have hq := ok.f_range p
  have v1 := Pt.conv_f _ p (fb_int p (by omega))
  change ∀ w, (convert 109 3 (.float .f64 (floatOfInt .f64 p))).run Try.prog w = .ok (.int .i64 p) w at v1
  have v2 := Pt.conv_f _ r (fb_int r (by omega))
  change ∀ w, (convert 109 3 (.float .f64 (floatOfInt .f64 r))).run Try.prog w = .ok (.int .i64 r) w at v2
  clear c o ok
  generalize tbF T p = q at *
  have x1 : IntKind.i64.wrap (q * 512) = q * 512 := by rw [IntKind.wrap_i64]; omega
  have x2 : IntKind.i64.wrap (q * 512 + r) = q * 512 + r := by rw [IntKind.wrap_i64]; omega
  have x3 : IntKind.i64.wrap (512 - r) = 512 - r := by rw [IntKind.wrap_i64]; omega
  have e2 : ∀ ts t w, (Builtin.min_ ts t #[.int .i64 n, .int .i64 (512 - r)]).run Try.prog w = .ok (.int .i64 (if n < 512 - r then n else 512 - r)) w := by
    intro ts t w
    rw [run_min_int2]
    congr 2
    split <;> split <;> omega
  have hq1 : (q == -1) = false := by simp; omega
  generalize (if n < 512 - r then n else 512 - r) = M at *
  clear hp hr hf hq
  go_enter Try.func45, Try.ntmps45
  go_wp2_with fail
  refine H1.out.mono ?_
  rintro e w1 ⟨rfl, hw⟩
  obtain rfl := hw.symm
  go_wp2
  exact bodyPost_ret (v := .tuple #[.agg #[.int .i64 (q * 512 + r), .int .i64 M, .bool false], .int .i64 0]) (by simp [results, Try.results45, go_sem]) rfl ⟨rfl, (Fr.refl _ w).alloc _⟩
set_option maxRecDepth 20000 in
set_option maxHeartbeats 4000000 in
theorem u_pieces_c (h : Tm t T w Z) (ok : TbOk T) {a n : Int} (ha : I64 a) (hn : I64 n) : Calls Try.prog 21 #[.pointer (some ⟨t, 0, none⟩), .int .i64 a, .int .i64 n] w fun e w' => ∃ ad cap, e = .returned (.tuple #[.slice ad (piL T a n).length cap, .int .i64 (piE T a n)]) ∧ SpAt w' ad (piL T a n) ∧ (∀ b off, ad = some ⟨b, off, none⟩ → 0 < (piL T a n).length → w.heap.size ≤ b) ∧ Fr (fun _ => False) w w' ∧ (piL T a n).length ≤ cap := by
  obtain ⟨m1, m2, h⟩ := h
  have HW := hid (Pt.l_within a n ha hn (Fr.refl _ w : Pt.K w w))
  by_cases hw : InWt a n
  case neg =>
    obtain ⟨e1, e2⟩ := pi_out (T := T) hw
    rw [e1, e2]
    rw [decide_eq_false (show ¬ InW a n from hw)] at HW
    clear e1 e2 hw h ok ha hn
    go_enter Try.func21, Try.ntmps21
    go_wp2_with fail
    refine HW.out.mono ?_
    rintro e w1 ⟨rfl, hk⟩
    have HK := hid hk
    clear hk HW
    go_wp2
    go_ret2
    exact ⟨none, 0, by simp, SpAt.nil _ _, (fun b off e => by cases e), HK.out, by simp⟩
  rw [decide_eq_true (show InW a n from hw)] at HW
  have HAT : Hid (∀ w0 y L x, Gr3 w w0 y L → Win x → Calls Try.prog 44 #[.int .i64 x] w0 fun e w' => e = .returned (.tuple #[.complex .f64 (floatOfInt .f64 (x / 512)) (floatOfInt .f64 (x % 512)), .int .i64 0]) ∧ Gr3 w w' y L) := fun w0 y L x hg hx => (Pt.l_at hx (Fr.refl _ w0 : Pt.K w0 w0)).mono fun _ _ ⟨he, f⟩ => ⟨he, hg.kept f⟩
  have HT : Hid (∀ w0 y L, Gr3 w w0 y L → Tw w0 t m1 m2 ∧ Og w0 m1 (fF T) T.length) := fun w0 y L hg => ⟨h.c.carry hg.fr (by have := h.c.lt; omega), h.o1.carry hg.fr fun B e => by have := h.lt B (h.z1 B e).1; omega⟩
  have HPN : Hid (∀ w0 y L p r n, Gr3 w w0 y L → (0 ≤ p ∧ p < 6400) → tbF T p < 0 → Calls Try.prog 45 #[.pointer (some ⟨t, 0, none⟩), .complex .f64 (floatOfInt .f64 p) (floatOfInt .f64 r), .int .i64 n] w0 fun e w' => e = .returned (.tuple #[.agg #[.int .i64 0, .int .i64 0, .bool false], .int .i64 4]) ∧ Gr3 w w' y L) := fun w0 y L p r n hg hp hf => (u_piece_no (HT.out w0 y L hg).1 (HT.out w0 y L hg).2 ok hp hf).mono fun _ _ ⟨he, f⟩ => ⟨he, hg.kept f⟩
  have HPY : Hid (∀ w0 y L p r n, Gr3 w w0 y L → (0 ≤ p ∧ p < 6400) → (0 ≤ r ∧ r < 512) → ¬ tbF T p < 0 → Calls Try.prog 45 #[.pointer (some ⟨t, 0, none⟩), .complex .f64 (floatOfInt .f64 p) (floatOfInt .f64 r), .int .i64 n] w0 fun e w' => e = .returned (.tuple #[.agg #[.int .i64 (tbF T p * 512 + r), .int .i64 (if n < 512 - r then n else 512 - r), .bool false], .int .i64 0]) ∧ Gr3 w w' y L) := fun w0 y L p r n hg hp hr hf => (u_piece (HT.out w0 y L hg).1 (HT.out w0 y L hg).2 ok hp hr hf).mono fun _ _ ⟨he, f⟩ => ⟨he, hg.kept f⟩
  have HOK := hid ok
  have HINW := hid hw
  obtain ⟨N, rfl⟩ : ∃ N : Nat, n = N := ⟨n.toNat, by omega⟩
  obtain ⟨h0, h1, h2, h3⟩ := hw
  clear h ok HT ha hn
  go_enter Try.func21, Try.ntmps21
  go_wp2_with fail
  refine HW.out.mono ?_
  rintro e w1 ⟨rfl, hk⟩
  have HG0 : Hid (Gr3 w w1 (.slice none 0 0) []) := (Gr3.start w).kept hk
  clear hk HW
  go_wp2
  go_loopw [1, 2, 8] (fun x n y wr => ∃ (k : Nat) (L : List Sq), k ≤ N ∧ x = .int .i64 (a + k) ∧ n = .int .i64 ((N : Int) - k) ∧ Hid (pcs T a k = some L) ∧ (k = 0 ∨ (a + k) % 512 = 0 ∨ k = N) ∧ Hid (Gr3 w wr y L)) (fun _ n _ _ => (intOf n).toNat)
  case atStart => exact ⟨0, [], by omega, by simp, by simp, rfl, .inl rfl, HG0⟩
  case round =>
    obtain ⟨k, L, hk, rfl, rfl, HP, hmod, HG⟩ := hrel
    have HPC := hid (pcs_ok (by omega) k L HP.out)
    have hLl : L.length ≤ 6400 := by
      rcases Nat.eq_zero_or_pos L.length with e | e
      · omega
      · have hj := (HPC.out.all (L.length - 1) (by omega)).2.2.2.2
        have := (HOK.out.at_ _ (HOK.out.f_some (by omega : ¬ tbF T (a / 512 + ((L.length - 1 : Nat) : Int)) < 0))).1
        simp only at this
        omega
    clear HPC HG0
    obtain ⟨ad, cap, rfl⟩ := HG.out.form
    by_cases hlt : k < N
    · have hwin : Win (a + k) := by omega
      have hpg : 0 ≤ (a + k) / 512 ∧ (a + k) / 512 < 6400 := by omega
      have hrr : 0 ≤ (a + k) % 512 ∧ (a + k) % 512 < 512 := by omega
      have hn0 : decide ((N : Int) - k > 0) = true := by simp; omega
      have HA := hid (HAT.out _ _ _ (a + k) HG.out hwin)
      by_cases hf : tbF T ((a + k) / 512) < 0
      · have hnone : pcs T a (N : Int).toNat = none := pcs_stop hf (by omega)
        have E := hid (pi_none hnone)
        have HC := hid fun w0 (hg : Gr3 w w0 (.slice ad L.length cap) L) => HPN.out w0 _ L ((a + k) / 512) ((a + k) % 512) ((N : Int) - k) hg hpg hf
        clear hnone HPN HPY HAT hf hmod HP
        generalize a + (k : Int) = i at *
        generalize i / 512 = pg at *
        generalize i % 512 = rr at *
        go_wp2_with fail
        refine HA.out.mono ?_
        rintro e w2 ⟨rfl, h2⟩
        have HG2 := hid h2
        clear h2 HG HA
        go_wp2_with fail
        refine (HC.out _ HG2.out).mono ?_
        rintro e w3 ⟨rfl, h3⟩
        have HG3 := hid h3
        clear h3 HC HG2
        go_wp2
        go_ret2
        exact ⟨none, 0, by rw [E.out.1, E.out.2]; simp, by rw [E.out.1]; exact SpAt.nil _ _, (fun b off e => by cases e), Fr.new (HG3.out.fr.alloc _), by rw [E.out.1]; simp⟩
      have hfr := HOK.out.f_range ((a + k) / 512)
      obtain ⟨M, hM, hM0, hM1, hM2⟩ : ∃ M : Nat, (if (N : Int) - k < 512 - (a + k) % 512 then (N : Int) - k else 512 - (a + k) % 512) = ((M + 1 : Nat) : Int) ∧ (a + k) % 512 + ((M + 1 : Nat) : Int) ≤ 512 ∧ k + (M + 1) ≤ N ∧ ((a + ((k + (M + 1) : Nat) : Int)) % 512 = 0 ∨ k + (M + 1) = N) := by
        refine ⟨((if (N : Int) - k < 512 - (a + k) % 512 then (N : Int) - k else 512 - (a + k) % 512) - 1).toNat, ?_⟩
        split <;> omega
      have HP2 := hid (pcs_page HP.out (by omega) hf M hM0)
      have HC := hid fun w0 (hg : Gr3 w w0 (.slice ad L.length cap) L) => HPY.out w0 _ L ((a + k) / 512) ((a + k) % 512) ((N : Int) - k) hg hpg hrr (by omega)
      rw [hM] at HC
      have y1 : IntKind.i64.wrap (a + k + ((M + 1 : Nat) : Int)) = a + k + ((M + 1 : Nat) : Int) := by rw [IntKind.wrap_i64]; omega
      have y2 : IntKind.i64.wrap ((N : Int) - k - ((M + 1 : Nat) : Int)) = (N : Int) - k - ((M + 1 : Nat) : Int) := by rw [IntKind.wrap_i64]; omega
      have HE : Hid (a + k + ((M + 1 : Nat) : Int) = a + ((k + (M + 1) : Nat) : Int) ∧ (N : Int) - k - ((M + 1 : Nat) : Int) = (N : Int) - ((k + (M + 1) : Nat) : Int) ∧ k + (M + 1) ≤ N ∧ (k + (M + 1) = 0 ∨ (a + ((k + (M + 1) : Nat) : Int)) % 512 = 0 ∨ k + (M + 1) = N) ∧ ((N : Int) - k - ((M + 1 : Nat) : Int)).toNat < ((N : Int) - k).toNat) := ⟨by omega, by omega, by omega, by omega, by omega⟩
      generalize hbb : k + (M + 1) = k2 at *
      clear hbb
      clear HPN HPY HAT hmod HP hM hM0 hM1 hM2 hfr hrr hpg hwin hlt
      generalize a + (k : Int) = i at *
      generalize (N : Int) - k = nn at *
      generalize tbF T (i / 512) = q at *
      generalize i / 512 = pg at *
      generalize i % 512 = rr at *
      generalize ((M + 1 : Nat) : Int) = m at *
      go_wp2_with fail
      refine HA.out.mono ?_
      rintro e w2 ⟨rfl, h2⟩
      have HG2 := hid h2
      clear h2 HG HA
      go_wp2_with fail
      refine (HC.out _ HG2.out).mono ?_
      rintro e w3 ⟨rfl, h3⟩
      have hbx : ∀ k, Value.ownBlock (.slice ad L.length cap) = some k → k < w3.heap.size := fun k e => (h3.row.lt k e).2
      have HG3 := hid (h3.kept ((Fr.refl _ w3).alloc (.cells #[.int .i64 (q * 512 + rr), .int .i64 m, .bool false] 65)))
      have HBX : Hid (∀ w', Fr (fun k => Value.ownBlock (.slice ad L.length cap) = some k) (w3.alloc (.cells #[.int .i64 (q * 512 + rr), .int .i64 m, .bool false] 65)) w' → w'.cell? ⟨w3.heap.size, 1, none⟩ = some (.int .i64 m)) := fun w' f => by
        rw [World.cell?_of_block (f.block w3.heap.size (by simp) fun e => absurd (hbx _ e) (by omega))]
        simp only [World.cell?, heap_alloc_new]
        rfl
      clear h3 HC HG2 hbx
      go_wp2_with (at_builtin; refine push3g (x := (q * 512 + rr, m, false)) rfl (.tmp 40) (.tmp 42) rfl HG3.out rfl (by simp [Act.eval]) (by omega) ?_)
      intro w4 y4 hG4 hF4
      obtain ⟨ad4, cap4, rfl⟩ := hG4.form
      have HG4 := hid hG4
      have hcell := HBX.out _ hF4
      clear hG4 hF4 HBX HG3
      go_wp2
      go_roundw
      case rel => exact ⟨k2, _, HE.out.2.2.1, by rw [HE.out.1], by rw [HE.out.2.1], HP2, HE.out.2.2.2.1, HG4⟩
      case measure => simp only [intOf]; exact HE.out.2.2.2.2
    · obtain rfl : k = N := by omega
      have hn0 : decide ((k : Int) - k > 0) = false := by simp
      have E := hid (pi_yes HINW.out (show pcs T a (k : Int).toNat = some L from HP.out))
      clear HPN HPY HAT hmod HP
      go_wp2
      go_ret2
      exact ⟨ad, cap, by rw [E.out.1, E.out.2]; simp, by rw [E.out.1]; exact HG.out.spans.1, by rw [E.out.1]; exact HG.out.spans.2, Fr.new HG.out.fr, by rw [E.out.1]; exact HG.out.cap_le⟩
theorem u_pieces (h : Tm t T w Z) (ok : TbOk T) {a n : Int} (ha : I64 a) (hn : I64 n) : Calls Try.prog 21 #[.pointer (some ⟨t, 0, none⟩), .int .i64 a, .int .i64 n] w fun e w' => ∃ ad cap, e = .returned (.tuple #[.slice ad (piL T a n).length cap, .int .i64 (piE T a n)]) ∧ SpAt w' ad (piL T a n) ∧ (∀ b off, ad = some ⟨b, off, none⟩ → 0 < (piL T a n).length → w.heap.size ≤ b) ∧ Fr (fun _ => False) w w' := (u_pieces_c h ok ha hn).mono fun _ _ ⟨ad, cap, h1, h2, h3, h4, _⟩ => ⟨ad, cap, h1, h2, h3, h4⟩
end
end Go.Proofs.Ytcajdbklchjkkaa
