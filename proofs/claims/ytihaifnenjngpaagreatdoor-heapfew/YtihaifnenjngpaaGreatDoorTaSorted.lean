/-
  What the calls of package table do: piece, Pieces.
  The library's functions that are called stand in this dump as the library's proof has them: numbers and bodies.
  What All of package table does: slices.Sorted(maps.Keys(m)), by the library's contracts.
-/
import Derived.Test.YtihaifnenjngpaaGreatDoorSpRow
import Derived.LoopTactic
import Derived.Deep.RegionHeld3
import Derived.Shelf.SlIterI.Nil
import Derived.Shelf.SortM.Plain
import Derived.Shelf.SortM.SortNone
import Derived.Test.YtihaifnenjngpaaGreatDoorProg
import Derived.Test.YtihaifnenjngpaaGreatDoorLists
namespace Go.Proofs.YtihaifnenjngpaaGreatDoor
open Go.RowKit

section
variable {w w0 : World} {t : Nat} {Z : Nat → Prop} {T : Tb} {m1 m2 : Option Nat}
theorem Gr3.cap_le {w0 : World} {ad : Option Addr} {n cap : Nat} {L : List Sq} (h : Gr3 w w0 (.slice ad n cap) L) : L.length ≤ cap := by
  rcases h.row.2 with ⟨e, e2⟩ | ⟨g, c, cur, e, _, _, h3, _⟩
  · omega
  · simp only [Value.slice.injEq] at e
    omega
theorem fF_find (ok : TbOk T) (v : Int) : (fF T v).getD (-1) = tbF T v := (fF_get ok v).symm
set_option maxRecDepth 20000 in
theorem u_piece_no (c : Tw w t m1 m2) (o : Og w m1 (fF T) T.length) (ok : TbOk T) {p r n : Int} (hp : 0 ≤ p ∧ p < 6400) (hf : tbF T p < 0) : Calls Tryz.prog 194 #[.pointer (some ⟨t, 0, none⟩), .complex .f64 (floatOfInt .f64 p) (floatOfInt .f64 r), .int .i64 n] w fun e w' => e = .returned (.tuple #[.agg #[.int .i64 0, .int .i64 0, .bool false], .int .i64 4]) ∧ Fr (fun _ => False) w w' := by
  have H1 := hid (u_find (c.carry (S := fun _ => False) ((Fr.refl _ w).alloc (.cells #[.int .i64 0, .int .i64 0, .bool false] 83)) id) (o.carry (S := fun _ => False) ((Fr.refl _ w).alloc (.cells #[.int .i64 0, .int .i64 0, .bool false] 83)) fun _ _ => id) (k := p) ⟨by omega, by omega⟩)
  rw [fF_find ok, (ok.f_none hf).1] at H1
  have v1 := Pt.conv_f _ p (fb_int p (by omega))
  change ∀ w, (convert 244 3 (.float .f64 (floatOfInt .f64 p))).run Tryz.prog w = .ok (.int .i64 p) w at v1
  clear c o ok hf hp
  go_enter Tryz.func194, Tryz.ntmps194
  go_wp2_with fail
  refine H1.out.mono ?_
  rintro e w1 ⟨rfl, hw⟩
  obtain rfl := hw.symm
  go_wp2
  exact bodyPost_ret (v := .tuple #[.agg #[.int .i64 0, .int .i64 0, .bool false], .int .i64 4]) (by simp [results, Tryz.results194, go_sem]) rfl ⟨rfl, (Fr.refl _ w).alloc _⟩
set_option maxRecDepth 20000 in
theorem u_piece (c : Tw w t m1 m2) (o : Og w m1 (fF T) T.length) (ok : TbOk T) {p r n : Int} (hp : 0 ≤ p ∧ p < 6400) (hr : 0 ≤ r ∧ r < 512) (hf : ¬ tbF T p < 0) : Calls Tryz.prog 194 #[.pointer (some ⟨t, 0, none⟩), .complex .f64 (floatOfInt .f64 p) (floatOfInt .f64 r), .int .i64 n] w fun e w' => e = .returned (.tuple #[.agg #[.int .i64 (tbF T p * 512 + r), .int .i64 (if n < 512 - r then n else 512 - r), .bool false], .int .i64 0]) ∧ Fr (fun _ => False) w w' := by
  have H1 := hid (u_find (c.carry (S := fun _ => False) ((Fr.refl _ w).alloc (.cells #[.int .i64 0, .int .i64 0, .bool false] 83)) id) (o.carry (S := fun _ => False) ((Fr.refl _ w).alloc (.cells #[.int .i64 0, .int .i64 0, .bool false] 83)) fun _ _ => id) (k := p) ⟨by omega, by omega⟩)
  rw [fF_find ok] at H1
  have hq := ok.f_range p
  have v1 := Pt.conv_f _ p (fb_int p (by omega))
  change ∀ w, (convert 244 3 (.float .f64 (floatOfInt .f64 p))).run Tryz.prog w = .ok (.int .i64 p) w at v1
  have v2 := Pt.conv_f _ r (fb_int r (by omega))
  change ∀ w, (convert 244 3 (.float .f64 (floatOfInt .f64 r))).run Tryz.prog w = .ok (.int .i64 r) w at v2
  clear c o ok
  generalize tbF T p = q at *
  have x1 : IntKind.i64.wrap (q * 512) = q * 512 := by rw [IntKind.wrap_i64]; omega
  have x2 : IntKind.i64.wrap (q * 512 + r) = q * 512 + r := by rw [IntKind.wrap_i64]; omega
  have x3 : IntKind.i64.wrap (512 - r) = 512 - r := by rw [IntKind.wrap_i64]; omega
  have e2 : ∀ ts t w, (Builtin.min_ ts t #[.int .i64 n, .int .i64 (512 - r)]).run Tryz.prog w = .ok (.int .i64 (if n < 512 - r then n else 512 - r)) w := by
    intro ts t w
    rw [run_min_int2]
    congr 2
    split <;> split <;> omega
  have hq1 : (q == -1) = false := by simp; omega
  generalize (if n < 512 - r then n else 512 - r) = M at *
  clear hp hr hf hq
  go_enter Tryz.func194, Tryz.ntmps194
  go_wp2_with fail
  refine H1.out.mono ?_
  rintro e w1 ⟨rfl, hw⟩
  obtain rfl := hw.symm
  go_wp2
  exact bodyPost_ret (v := .tuple #[.agg #[.int .i64 (q * 512 + r), .int .i64 M, .bool false], .int .i64 0]) (by simp [results, Tryz.results194, go_sem]) rfl ⟨rfl, (Fr.refl _ w).alloc _⟩
set_option maxRecDepth 20000 in
set_option maxHeartbeats 4000000 in
theorem u_pieces_c (h : Tm t T w Z) (ok : TbOk T) {a n : Int} (ha : I64 a) (hn : I64 n) : Calls Tryz.prog 141 #[.pointer (some ⟨t, 0, none⟩), .int .i64 a, .int .i64 n] w fun e w' => ∃ ad cap, e = .returned (.tuple #[.slice ad (piL T a n).length cap, .int .i64 (piE T a n)]) ∧ SpAt w' ad (piL T a n) ∧ (∀ b off, ad = some ⟨b, off, none⟩ → 0 < (piL T a n).length → w.heap.size ≤ b) ∧ Fr (fun _ => False) w w' ∧ (piL T a n).length ≤ cap := by
  obtain ⟨m1, m2, h⟩ := h
  have HW := hid (Pt.l_within a n ha hn (Fr.refl _ w : Pt.K w w))
  by_cases hw : InWt a n
  case neg =>
    obtain ⟨e1, e2⟩ := pi_out (T := T) hw
    rw [e1, e2]
    rw [decide_eq_false (show ¬ InW a n from hw)] at HW
    clear e1 e2 hw h ok ha hn
    go_enter Tryz.func141, Tryz.ntmps141
    go_wp2_with fail
    refine HW.out.mono ?_
    rintro e w1 ⟨rfl, hk⟩
    have HK := hid hk
    clear hk HW
    go_wp2
    go_ret2
    exact ⟨none, 0, by simp, SpAt.nil _ _, (fun b off e => by cases e), HK.out, by simp⟩
  rw [decide_eq_true (show InW a n from hw)] at HW
  have HAT : Hid (∀ w0 y L x, Gr3 w w0 y L → Win x → Calls Tryz.prog 193 #[.int .i64 x] w0 fun e w' => e = .returned (.tuple #[.complex .f64 (floatOfInt .f64 (x / 512)) (floatOfInt .f64 (x % 512)), .int .i64 0]) ∧ Gr3 w w' y L) := fun w0 y L x hg hx => (Pt.l_at hx (Fr.refl _ w0 : Pt.K w0 w0)).mono fun _ _ ⟨he, f⟩ => ⟨he, hg.kept f⟩
  have HT : Hid (∀ w0 y L, Gr3 w w0 y L → Tw w0 t m1 m2 ∧ Og w0 m1 (fF T) T.length) := fun w0 y L hg => ⟨h.c.carry hg.fr (by have := h.c.lt; omega), h.o1.carry hg.fr fun B e => by have := h.lt B (h.z1 B e).1; omega⟩
  have HPN : Hid (∀ w0 y L p r n, Gr3 w w0 y L → (0 ≤ p ∧ p < 6400) → tbF T p < 0 → Calls Tryz.prog 194 #[.pointer (some ⟨t, 0, none⟩), .complex .f64 (floatOfInt .f64 p) (floatOfInt .f64 r), .int .i64 n] w0 fun e w' => e = .returned (.tuple #[.agg #[.int .i64 0, .int .i64 0, .bool false], .int .i64 4]) ∧ Gr3 w w' y L) := fun w0 y L p r n hg hp hf => (u_piece_no (HT.out w0 y L hg).1 (HT.out w0 y L hg).2 ok hp hf).mono fun _ _ ⟨he, f⟩ => ⟨he, hg.kept f⟩
  have HPY : Hid (∀ w0 y L p r n, Gr3 w w0 y L → (0 ≤ p ∧ p < 6400) → (0 ≤ r ∧ r < 512) → ¬ tbF T p < 0 → Calls Tryz.prog 194 #[.pointer (some ⟨t, 0, none⟩), .complex .f64 (floatOfInt .f64 p) (floatOfInt .f64 r), .int .i64 n] w0 fun e w' => e = .returned (.tuple #[.agg #[.int .i64 (tbF T p * 512 + r), .int .i64 (if n < 512 - r then n else 512 - r), .bool false], .int .i64 0]) ∧ Gr3 w w' y L) := fun w0 y L p r n hg hp hr hf => (u_piece (HT.out w0 y L hg).1 (HT.out w0 y L hg).2 ok hp hr hf).mono fun _ _ ⟨he, f⟩ => ⟨he, hg.kept f⟩
  have HOK := hid ok
  have HINW := hid hw
  obtain ⟨N, rfl⟩ : ∃ N : Nat, n = N := ⟨n.toNat, by omega⟩
  obtain ⟨h0, h1, h2, h3⟩ := hw
  clear h ok HT ha hn
  go_enter Tryz.func141, Tryz.ntmps141
  go_wp2_with fail
  refine HW.out.mono ?_
  rintro e w1 ⟨rfl, hk⟩
  have HG0 : Hid (Gr3 w w1 (.slice none 0 0) []) := (Gr3.start w).kept hk
  clear hk HW
  go_wp2
  go_loopw [1, 2, 8] (fun x n y wr => ∃ (k : Nat) (L : List Sq), k ≤ N ∧ x = .int .i64 (a + k) ∧ n = .int .i64 ((N : Int) - k) ∧ Hid (pcs T a k = some L) ∧ (k = 0 ∨ (a + k) % 512 = 0 ∨ k = N) ∧ Hid (Gr3 w wr y L)) (fun _ n _ _ => (intOf n).toNat)
  case atStart => exact ⟨0, [], by omega, by simp, by simp, rfl, .inl rfl, HG0⟩
  case round =>
    obtain ⟨k, L, hk, rfl, rfl, HP, hmod, HG⟩ := hrel
    have HPC := hid (pcs_ok (by omega) k L HP.out)
    have hLl : L.length ≤ 6400 := by
      rcases Nat.eq_zero_or_pos L.length with e | e
      · omega
      · have hj := (HPC.out.all (L.length - 1) (by omega)).2.2.2.2
        have := (HOK.out.at_ _ (HOK.out.f_some (by omega : ¬ tbF T (a / 512 + ((L.length - 1 : Nat) : Int)) < 0))).1
        simp only at this
        omega
    clear HPC HG0
    obtain ⟨ad, cap, rfl⟩ := HG.out.form
    by_cases hlt : k < N
    · have hwin : Win (a + k) := by omega
      have hpg : 0 ≤ (a + k) / 512 ∧ (a + k) / 512 < 6400 := by omega
      have hrr : 0 ≤ (a + k) % 512 ∧ (a + k) % 512 < 512 := by omega
      have hn0 : decide ((N : Int) - k > 0) = true := by simp; omega
      have HA := hid (HAT.out _ _ _ (a + k) HG.out hwin)
      by_cases hf : tbF T ((a + k) / 512) < 0
      · have hnone : pcs T a (N : Int).toNat = none := pcs_stop hf (by omega)
        have E := hid (pi_none hnone)
        have HC := hid fun w0 (hg : Gr3 w w0 (.slice ad L.length cap) L) => HPN.out w0 _ L ((a + k) / 512) ((a + k) % 512) ((N : Int) - k) hg hpg hf
        clear hnone HPN HPY HAT hf hmod HP
        generalize a + (k : Int) = i at *
        generalize i / 512 = pg at *
        generalize i % 512 = rr at *
        go_wp2_with fail
        refine HA.out.mono ?_
        rintro e w2 ⟨rfl, h2⟩
        have HG2 := hid h2
        clear h2 HG HA
        go_wp2_with fail
        refine (HC.out _ HG2.out).mono ?_
        rintro e w3 ⟨rfl, h3⟩
        have HG3 := hid h3
        clear h3 HC HG2
        go_wp2
        go_ret2
        exact ⟨none, 0, by rw [E.out.1, E.out.2]; simp, by rw [E.out.1]; exact SpAt.nil _ _, (fun b off e => by cases e), Fr.new (HG3.out.fr.alloc _), by rw [E.out.1]; simp⟩
      have hfr := HOK.out.f_range ((a + k) / 512)
      obtain ⟨M, hM, hM0, hM1, hM2⟩ : ∃ M : Nat, (if (N : Int) - k < 512 - (a + k) % 512 then (N : Int) - k else 512 - (a + k) % 512) = ((M + 1 : Nat) : Int) ∧ (a + k) % 512 + ((M + 1 : Nat) : Int) ≤ 512 ∧ k + (M + 1) ≤ N ∧ ((a + ((k + (M + 1) : Nat) : Int)) % 512 = 0 ∨ k + (M + 1) = N) := by
        refine ⟨((if (N : Int) - k < 512 - (a + k) % 512 then (N : Int) - k else 512 - (a + k) % 512) - 1).toNat, ?_⟩
        split <;> omega
      have HP2 := hid (pcs_page HP.out (by omega) hf M hM0)
      have HC := hid fun w0 (hg : Gr3 w w0 (.slice ad L.length cap) L) => HPY.out w0 _ L ((a + k) / 512) ((a + k) % 512) ((N : Int) - k) hg hpg hrr (by omega)
      rw [hM] at HC
      have y1 : IntKind.i64.wrap (a + k + ((M + 1 : Nat) : Int)) = a + k + ((M + 1 : Nat) : Int) := by rw [IntKind.wrap_i64]; omega
      have y2 : IntKind.i64.wrap ((N : Int) - k - ((M + 1 : Nat) : Int)) = (N : Int) - k - ((M + 1 : Nat) : Int) := by rw [IntKind.wrap_i64]; omega
      have HE : Hid (a + k + ((M + 1 : Nat) : Int) = a + ((k + (M + 1) : Nat) : Int) ∧ (N : Int) - k - ((M + 1 : Nat) : Int) = (N : Int) - ((k + (M + 1) : Nat) : Int) ∧ k + (M + 1) ≤ N ∧ (k + (M + 1) = 0 ∨ (a + ((k + (M + 1) : Nat) : Int)) % 512 = 0 ∨ k + (M + 1) = N) ∧ ((N : Int) - k - ((M + 1 : Nat) : Int)).toNat < ((N : Int) - k).toNat) := ⟨by omega, by omega, by omega, by omega, by omega⟩
      generalize hbb : k + (M + 1) = k2 at *
      clear hbb
      clear HPN HPY HAT hmod HP hM hM0 hM1 hM2 hfr hrr hpg hwin hlt
      generalize a + (k : Int) = i at *
      generalize (N : Int) - k = nn at *
      generalize tbF T (i / 512) = q at *
      generalize i / 512 = pg at *
      generalize i % 512 = rr at *
      generalize ((M + 1 : Nat) : Int) = m at *
      go_wp2_with fail
      refine HA.out.mono ?_
      rintro e w2 ⟨rfl, h2⟩
      have HG2 := hid h2
      clear h2 HG HA
      go_wp2_with fail
      refine (HC.out _ HG2.out).mono ?_
      rintro e w3 ⟨rfl, h3⟩
      have hbx : ∀ k, Value.ownBlock (.slice ad L.length cap) = some k → k < w3.heap.size := fun k e => (h3.row.lt k e).2
      have HG3 := hid (h3.kept ((Fr.refl _ w3).alloc (.cells #[.int .i64 (q * 512 + rr), .int .i64 m, .bool false] 83)))
      have HBX : Hid (∀ w', Fr (fun k => Value.ownBlock (.slice ad L.length cap) = some k) (w3.alloc (.cells #[.int .i64 (q * 512 + rr), .int .i64 m, .bool false] 83)) w' → w'.cell? ⟨w3.heap.size, 1, none⟩ = some (.int .i64 m)) := fun w' f => by
        rw [World.cell?_of_block (f.block w3.heap.size (by simp) fun e => absurd (hbx _ e) (by omega))]
        simp only [World.cell?, heap_alloc_new]
        rfl
      clear h3 HC HG2 hbx
      go_wp2_with (at_builtin; refine push3g (x := (q * 512 + rr, m, false)) rfl (.tmp 40) (.tmp 42) rfl HG3.out rfl (by simp [Act.eval]) (by omega) ?_)
      intro w4 y4 hG4 hF4
      obtain ⟨ad4, cap4, rfl⟩ := hG4.form
      have HG4 := hid hG4
      have hcell := HBX.out _ hF4
      clear hG4 hF4 HBX HG3
      go_wp2
      go_roundw
      case rel => exact ⟨k2, _, HE.out.2.2.1, by rw [HE.out.1], by rw [HE.out.2.1], HP2, HE.out.2.2.2.1, HG4⟩
      case measure => simp only [intOf]; exact HE.out.2.2.2.2
    · obtain rfl : k = N := by omega
      have hn0 : decide ((k : Int) - k > 0) = false := by simp
      have E := hid (pi_yes HINW.out (show pcs T a (k : Int).toNat = some L from HP.out))
      clear HPN HPY HAT hmod HP
      go_wp2
      go_ret2
      exact ⟨ad, cap, by rw [E.out.1, E.out.2]; simp, by rw [E.out.1]; exact HG.out.spans.1, by rw [E.out.1]; exact HG.out.spans.2, Fr.new HG.out.fr, by rw [E.out.1]; exact HG.out.cap_le⟩
theorem u_pieces (h : Tm t T w Z) (ok : TbOk T) {a n : Int} (ha : I64 a) (hn : I64 n) : Calls Tryz.prog 141 #[.pointer (some ⟨t, 0, none⟩), .int .i64 a, .int .i64 n] w fun e w' => ∃ ad cap, e = .returned (.tuple #[.slice ad (piL T a n).length cap, .int .i64 (piE T a n)]) ∧ SpAt w' ad (piL T a n) ∧ (∀ b off, ad = some ⟨b, off, none⟩ → 0 < (piL T a n).length → w.heap.size ≤ b) ∧ Fr (fun _ => False) w w' := (u_pieces_c h ok ha hn).mono fun _ _ ⟨ad, cap, h1, h2, h3, h4, _⟩ => ⟨ad, cap, h1, h2, h3, h4⟩
end
end Go.Proofs.YtihaifnenjngpaaGreatDoor

namespace Go.Proofs
open Go.Shelf
def Tryz.keysA_ren : Go.Shelf.Ren := ⟨fun | 7 => 58 | 10 => 123 | n => n, fun | 23 => 114 | 26 => 3 | 3 => 3 | 28 => 112 | 0 => 0 | 27 => 111 | 33 => 90 | 4 => 4 | n => n, fun | n => n⟩
theorem Tryz.keysA : Go.Proofs.SlLaysZI.n7 Tryz.prog Tryz.keysA_ren := {
  mixed := by kernel_rfl
  f7 := ⟨Tryz.f58.name, by decide, Tryz.func58.trans (congrArg some (by kernel_rfl))⟩
  f10 := ⟨Tryz.f123.name, by decide, Tryz.func123.trans (congrArg some (by kernel_rfl))⟩
  t0 := Tryz.underlying0
  a0 := Tryz.isAgg0
  z0 := Tryz.sizeOf0
  v0 := Tryz.zeroValue0
  t4 := Tryz.underlying4
  a4 := Tryz.isAgg4
  z4 := Tryz.sizeOf4
  v4 := Tryz.zeroValue4
  t23 := Tryz.underlying114
  a23 := Tryz.isAgg114
  z23 := Tryz.sizeOf114
  v23 := Tryz.zeroValue114
  t26 := Tryz.underlying3
  a26 := Tryz.isAgg3
  z26 := Tryz.sizeOf3
  v26 := Tryz.zeroValue3
  t27 := Tryz.underlying111
  a27 := Tryz.isAgg111
  z27 := Tryz.sizeOf111
  v27 := Tryz.zeroValue111
  t28 := Tryz.underlying112
  a28 := Tryz.isAgg112
  z28 := Tryz.sizeOf112
  v28 := Tryz.zeroValue112
  t33 := Tryz.underlying90
  a33 := Tryz.isAgg90
  z33 := Tryz.sizeOf90
  v33 := Tryz.zeroValue90 }
def Tryz.sortedA_ren : Go.Shelf.Ren := ⟨fun | 6 => 57 | 8 => 121 | 9 => 122 | 11 => 172 | 13 => 174 | 12 => 173 | 23 => 219 | 24 => 220 | 14 => 210 | 15 => 211 | 16 => 212 | 17 => 213 | 18 => 214 | 19 => 215 | 20 => 216 | 21 => 217 | 22 => 218 | 25 => 227 | 26 => 228 | 27 => 229 | 28 => 230 | 29 => 231 | 30 => 232 | 31 => 235 | n => n, fun | 26 => 3 | 28 => 112 | 24 => 24 | 0 => 0 | 3 => 3 | 37 => 76 | 48 => 239 | 50 => 178 | 4 => 4 | 40 => 233 | 39 => 232 | 45 => 174 | 5 => 5 | 9 => 9 | 51 => 245 | 55 => 249 | 57 => 255 | 58 => 256 | 33 => 90 | n => n, fun | n => n⟩
theorem Tryz.sortedA : Go.Proofs.SlLaysZI.n6 Tryz.prog Tryz.sortedA_ren := {
  mixed := by kernel_rfl
  f6 := ⟨Tryz.f57.name, by decide, Tryz.func57.trans (congrArg some (by kernel_rfl))⟩
  f8 := ⟨Tryz.f121.name, by decide, Tryz.func121.trans (congrArg some (by kernel_rfl))⟩
  f11 := ⟨Tryz.f172.name, by decide, Tryz.func172.trans (congrArg some (by kernel_rfl))⟩
  t0 := Tryz.underlying0
  a0 := Tryz.isAgg0
  z0 := Tryz.sizeOf0
  v0 := Tryz.zeroValue0
  t24 := Tryz.underlying24
  a24 := Tryz.isAgg24
  z24 := Tryz.sizeOf24
  v24 := Tryz.zeroValue24
  t26 := Tryz.underlying3
  a26 := Tryz.isAgg3
  z26 := Tryz.sizeOf3
  v26 := Tryz.zeroValue3
  t28 := Tryz.underlying112
  a28 := Tryz.isAgg112
  z28 := Tryz.sizeOf112
  v28 := Tryz.zeroValue112
  i26 := by kernel_rfl }
def Tryz.sortA_ren : Go.Shelf.Ren := ⟨fun | 5 => 122 | 8 => 174 | 7 => 173 | 19 => 219 | 20 => 220 | 10 => 210 | 11 => 211 | 12 => 212 | 13 => 213 | 14 => 214 | 15 => 215 | 16 => 216 | 17 => 217 | 18 => 218 | 30 => 227 | 31 => 228 | 32 => 229 | 33 => 230 | 34 => 231 | 35 => 232 | 40 => 235 | n => n, fun | 23 => 24 | 25 => 3 | 3 => 3 | 32 => 76 | 22 => 24 | 0 => 0 | 44 => 239 | 46 => 178 | 4 => 4 | 36 => 233 | 35 => 232 | 41 => 174 | 5 => 5 | 9 => 9 | 53 => 245 | 57 => 249 | 63 => 255 | 64 => 256 | n => n, fun | n => n⟩
theorem Tryz.sortA : Go.Proofs.SlLaysM.n5 Tryz.prog Tryz.sortA_ren := {
  mixed := by kernel_rfl
  f5 := ⟨Tryz.f122.name, by decide, Tryz.func122.trans (congrArg some (by kernel_rfl))⟩
  f7 := ⟨Tryz.f173.name, by decide, Tryz.func173.trans (congrArg some (by kernel_rfl))⟩
  f8 := Tryz.func174.trans (congrArg some (by kernel_rfl))
  f10 := ⟨Tryz.f210.name, by decide, Tryz.func210.trans (congrArg some (by kernel_rfl))⟩
  f11 := ⟨Tryz.f211.name, by decide, Tryz.func211.trans (congrArg some (by kernel_rfl))⟩
  f12 := ⟨Tryz.f212.name, by decide, Tryz.func212.trans (congrArg some (by kernel_rfl))⟩
  f13 := ⟨Tryz.f213.name, by decide, Tryz.func213.trans (congrArg some (by kernel_rfl))⟩
  f14 := ⟨Tryz.f214.name, by decide, Tryz.func214.trans (congrArg some (by kernel_rfl))⟩
  f15 := ⟨Tryz.f215.name, by decide, Tryz.func215.trans (congrArg some (by kernel_rfl))⟩
  f16 := ⟨Tryz.f216.name, by decide, Tryz.func216.trans (congrArg some (by kernel_rfl))⟩
  f17 := ⟨Tryz.f217.name, by decide, Tryz.func217.trans (congrArg some (by kernel_rfl))⟩
  f18 := ⟨Tryz.f218.name, by decide, Tryz.func218.trans (congrArg some (by kernel_rfl))⟩
  f19 := Tryz.func219.trans (congrArg some (by kernel_rfl))
  f20 := Tryz.func220.trans (congrArg some (by kernel_rfl))
  f30 := ⟨Tryz.f227.name, by decide, Tryz.func227.trans (congrArg some (by kernel_rfl))⟩
  f31 := Tryz.func228.trans (congrArg some (by kernel_rfl))
  f32 := Tryz.func229.trans (congrArg some (by kernel_rfl))
  f33 := ⟨Tryz.f230.name, by decide, Tryz.func230.trans (congrArg some (by kernel_rfl))⟩
  f34 := ⟨Tryz.f231.name, by decide, Tryz.func231.trans (congrArg some (by kernel_rfl))⟩
  f35 := ⟨Tryz.f232.name, by decide, Tryz.func232.trans (congrArg some (by kernel_rfl))⟩
  f40 := ⟨Tryz.f235.name, by decide, Tryz.func235.trans (congrArg some (by kernel_rfl))⟩
  t0 := Tryz.underlying0
  a0 := Tryz.isAgg0
  z0 := Tryz.sizeOf0
  v0 := Tryz.zeroValue0
  t3 := Tryz.underlying3
  a3 := Tryz.isAgg3
  z3 := Tryz.sizeOf3
  v3 := Tryz.zeroValue3
  t4 := Tryz.underlying4
  a4 := Tryz.isAgg4
  z4 := Tryz.sizeOf4
  v4 := Tryz.zeroValue4
  t5 := Tryz.underlying5
  a5 := Tryz.isAgg5
  z5 := Tryz.sizeOf5
  v5 := Tryz.zeroValue5
  t9 := Tryz.underlying9
  a9 := Tryz.isAgg9
  z9 := Tryz.sizeOf9
  v9 := Tryz.zeroValue9
  t22 := Tryz.underlying24
  a22 := Tryz.isAgg24
  z22 := Tryz.sizeOf24
  v22 := Tryz.zeroValue24
  t23 := Tryz.underlying24
  a23 := Tryz.isAgg24
  z23 := Tryz.sizeOf24
  v23 := Tryz.zeroValue24
  t25 := Tryz.underlying3
  a25 := Tryz.isAgg3
  z25 := Tryz.sizeOf3
  v25 := Tryz.zeroValue3
  t32 := Tryz.underlying76
  a32 := Tryz.isAgg76
  z32 := Tryz.sizeOf76
  v32 := Tryz.zeroValue76
  t35 := Tryz.underlying232
  a35 := Tryz.isAgg232
  z35 := Tryz.sizeOf232
  v35 := Tryz.zeroValue232
  t36 := Tryz.underlying233
  a36 := Tryz.isAgg233
  z36 := Tryz.sizeOf233
  v36 := Tryz.zeroValue233
  t41 := Tryz.underlying174
  a41 := Tryz.isAgg174
  z41 := Tryz.sizeOf174
  v41 := Tryz.zeroValue174
  t44 := Tryz.underlying239
  a44 := Tryz.isAgg239
  z44 := Tryz.sizeOf239
  v44 := Tryz.zeroValue239
  t46 := Tryz.underlying178
  a46 := Tryz.isAgg178
  z46 := Tryz.sizeOf178
  v46 := Tryz.zeroValue178
  t53 := Tryz.underlying245
  a53 := Tryz.isAgg245
  z53 := Tryz.sizeOf245
  v53 := Tryz.zeroValue245
  t57 := Tryz.underlying249
  a57 := Tryz.isAgg249
  z57 := Tryz.sizeOf249
  v57 := Tryz.zeroValue249
  t63 := Tryz.underlying255
  a63 := Tryz.isAgg255
  z63 := Tryz.sizeOf255
  v63 := Tryz.zeroValue255
  t64 := Tryz.underlying256
  a64 := Tryz.isAgg256
  z64 := Tryz.sizeOf256
  v64 := Tryz.zeroValue256 }
end Go.Proofs

namespace Go.Proofs.YtihaifnenjngpaaGreatDoor
open Go.RowKit Go.Maps Go.Sort Go.Shelf

theorem sortsA (m : Nat) : AnyZI.SortsIn Tryz.prog Tryz.sortedA_ren Fence.wide m :=
  ⟨fun blk off cap ss W hH hblk hsz => callsIn_wide.2 (AnyM.slices_Sort_int Tryz.sortA blk off cap ss W hH hblk hsz),
   fun p cap W => callsIn_wide.2 (AnyM.slices_Sort_int_none Tryz.sortA p cap W)⟩
theorem keysIn (mb : Option Nat) (W : World) : CallsIn Fence.wide 5 Tryz.prog 58 #[.map mb] W fun e w' => e = .returned (.func (.func 123) #[] #[.pointer (some ⟨W.heap.size, 0, none⟩)]) ∧ w' = W.alloc (.cells #[.map mb] 114) := AnyZI.keys_in Tryz.keysA Fence.wide 5 trivial rfl mb W
section
variable {w : World} {t : Nat} {T : Tb} {m1 m2 : Option Nat}
/-- The keys that a table reads as. -/
theorem keys_of {B n : Nat} (ok : TbOk T) {D : DataW Unit} (h1 : w.ownsMap Tryz.prog 3 (plainElem Tryz.prog 3) B n D) (h2 : Di D (fF T) T.length) : (T.map Prod.fst).Perm (intKeys D) := by
  have hc : CollectedI D (fun _ => false) (T.map Prod.fst) := by
    refine ⟨List.pairwise_map.2 (ok.up.imp fun {x y} h => by omega), fun x => ?_⟩
    rw [h2.1 x]
    constructor
    · intro h
      obtain ⟨y, hy, rfl⟩ := List.mem_map.1 h
      have := (fF_iff ok (v := y.1) (p := y.2)).2 hy
      simp [this]
    · rintro ⟨h, _⟩
      obtain ⟨p, hp⟩ := Option.isSome_iff_exists.1 h
      exact List.mem_map.2 ⟨_, (fF_iff ok).1 hp, rfl⟩
  exact hc.perm h1 intLaw Tryz.underlying3 fun _ => rfl
set_option maxRecDepth 20000 in
set_option maxHeartbeats 2000000 in
theorem u_all (c : Tw w t m1 m2) (o : Og w m1 (fF T) T.length) (ok : TbOk T) : Calls Tryz.prog 18 #[.pointer (some ⟨t, 0, none⟩)] w fun e w' => ∃ ad cap, e = .returned (.slice ad (T.map Prod.fst).length cap) ∧ NumsAt w' ad (T.map Prod.fst) ∧ (∀ b off, ad = some ⟨b, off, none⟩ → 0 < (T.map Prod.fst).length → w.heap.size ≤ b) ∧ Fr (fun _ => False) w w' := by
  have c0 := c.c0
  have hlen := Tb.few ok
  refine (callsIn_wide (n := 6)).1 ?_
  have hfK : Fence.wide.fn 58 := trivial
  have hfS : Fence.wide.fn 57 := trivial
  rcases o with ⟨rfl, e1, e2⟩ | ⟨B, rfl, D, hown, hD⟩
  · have eT : T = [] := List.eq_nil_of_length_eq_zero e2
    subst eT
    have hseq : SeqGives Fence.wide 2 Tryz.prog 123 #[.pointer (some ⟨w.heap.size, 0, none⟩)] encZ (fun ss : List Int => ss = []) 0 (w.alloc (.cells #[.map none] 114)) :=
      AnyZI.keys_gives_nil (ρ := Tryz.keysA_ren) { Tryz.keysA with } Fence.wide _ trivial rfl w.heap.size _ (by simp) (by simp)
    have cS := AnyZI.sorted_in Tryz.sortedA Fence.wide 5 trivial trivial trivial trivial rfl (by omega) (sortsA _) (enters_of Tryz.func122 (by kernel_rfl) rfl) 123 #[.pointer (some ⟨w.heap.size, 0, none⟩)] trivial (enters_of Tryz.func123 (by kernel_rfl) rfl) _ 0 (Nat.zero_le _) (by omega) _ hseq
    change CallsIn _ _ Tryz.prog 57 _ _ _ at cS
    have HS := hid cS
    clear cS hseq c ok hlen e1 e2
    refine callsIn_of_wp Tryz.func18 rfl trivial ?_ rfl
    simp only [Tryz.ntmps18, List.size_toArray, List.length_cons, List.length_nil, Nat.reduceAdd, Nat.reduceSub, Array.replicate_succ, Array.replicate_zero, List.push_toArray, List.append_toArray, List.nil_append, List.cons_append]
    gi_wp2_with (first
      | (gi_at_call 58; refine (keysIn _ _).mono ?_; rintro e w' ⟨rfl, rfl⟩)
      | (gi_at_call 57; refine HS.out.mono ?_; rintro e w' ⟨v, ss, rfl, rfl, hrow, hnil, hb⟩; obtain rfl : v = .slice none 0 0 := hnil.2 rfl))
    go_ret
    exact ⟨none, 0, by simp, fun i hi => by simp at hi, (fun b off e => by cases e), Fr.trans ((Fr.refl _ w).alloc _) (Fr.ofBelow hb)⟩
  · have hbl := hown.lt
    have hsz : Maps.size D = T.length := hD.2.2
    have HP := hid (keys_of ok hown hD)
    have hseq : SeqGives Fence.wide 2 Tryz.prog 123 #[.pointer (some ⟨w.heap.size, 0, none⟩)] encZ (fun ss => ss.Perm (intKeys D)) (Maps.size D) (w.alloc (.cells #[.map (some B)] 114)) :=
      AnyZI.keys_gives (ρ := Tryz.keysA_ren) { Tryz.keysA with } Fence.wide _ trivial rfl (by omega) w.heap.size B T.length D _ (by simp) (by simp) (by
        obtain ⟨es, clock, hb, Ft, hs, hD⟩ := hown
        exact ⟨es, clock, (Below.heap_alloc _ _ B hbl).trans hb, Ft, hs, hD⟩)
    have cS := AnyZI.sorted_in Tryz.sortedA Fence.wide 5 trivial trivial trivial trivial rfl (by omega) (sortsA _) (enters_of Tryz.func122 (by kernel_rfl) rfl) 123 #[.pointer (some ⟨w.heap.size, 0, none⟩)] trivial (enters_of Tryz.func123 (by kernel_rfl) rfl) _ _ (by unfold maxLen; omega) (by omega) _ hseq
    change CallsIn _ _ Tryz.prog 57 _ _ _ at cS
    have HS := hid cS
    have HOK := hid ok
    clear cS hseq c ok hlen hown hD hbl hsz
    refine callsIn_of_wp Tryz.func18 rfl trivial ?_ rfl
    simp only [Tryz.ntmps18, List.size_toArray, List.length_cons, List.length_nil, Nat.reduceAdd, Nat.reduceSub, Array.replicate_succ, Array.replicate_zero, List.push_toArray, List.append_toArray, List.nil_append, List.cons_append]
    gi_wp2_with (first
      | (gi_at_call 58; refine (keysIn _ _).mono ?_; rintro e w' ⟨rfl, rfl⟩)
      | (gi_at_call 57; refine HS.out.mono ?_; rintro e w' ⟨v, ss, rfl, hS, hrow, hnil, hb⟩))
    go_ret
    have hs := keys_sorted HOK.out (hS.trans HP.out.symm)
    have hl : ss.length = (T.map Prod.fst).length := (hS.trans HP.out.symm).length_eq
    rw [hs, hl] at hrow
    have hrow2 : w'.ownsRow w.heap.size 3 1 v (T.map Prod.fst).length (ic (T.map Prod.fst)) := ownsRow_base_a hrow (by simp)
    obtain ⟨ad, cap, rfl, h1, h2⟩ := row_list hrow2
    exact ⟨ad, cap, rfl, h1, fun b off e _ => h2 b off e, Fr.trans ((Fr.refl _ w).alloc _) (Fr.ofBelow hb)⟩
end
end Go.Proofs.YtihaifnenjngpaaGreatDoor
