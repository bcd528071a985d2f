/-
  The walk of the law CapsRights.
-/
import Derived.Test.YtcleheapfgapaaaDoorCaState
namespace Go.Proofs.YtcleheapfgapaaaDoor
open Go.RowKit

/-- The tables of this law. -/
def rt1 (t : Int) : Ct := ⟨t, 2, [⟨0, 7, 1, 7⟩]⟩
def rt2 (t k : Int) : Ct := ⟨t, 3, [⟨0, 7, 1, 7⟩, ⟨4096, k, 2, 7⟩]⟩
theorem rt1_of (t : Int) : grS (newC t 1) 7 = rt1 t ∧ grE (newC t 1) 7 = 0 ∧ grV (newC t 1) 7 = pkB t 0 7 1 := ⟨rfl, rfl, rfl⟩
theorem rt1_ok {t : Int} (ht : 0 ≤ t ∧ t ≤ 7) : (rt1 t).Ok := by
  have := grS_ok (newC_ok (t := t) (n := 1) ⟨ht, by decide⟩) 7
  rw [(rt1_of t).1] at this
  exact this
theorem sub_seven : ∀ k : Fin 8, sub 7 (k.val : Int) = true := by decide
theorem rt2_of {t k : Int} (ht : 0 ≤ t ∧ t ≤ 7) (hk : 1 ≤ k ∧ k ≤ 7) : reS (rt1 t) (pkB t 0 7 1) k = rt2 t k ∧ reE (rt1 t) (pkB t 0 7 1) k = 0 ∧ reV (rt1 t) (pkB t 0 7 1) k = pkB t 4096 k 2 := by
  have hl : look (rt1 t) (pkB t 0 7 1) = some ⟨0, 7, 1, 7⟩ := look_at (rt1_ok ht) (x := ⟨0, 7, 1, 7⟩) (List.mem_cons_self ..)
  have hs : sub 7 k = true := by
    have := sub_seven ⟨k.toNat, by omega⟩
    rwa [show ((k.toNat : Nat) : Int) = k by omega] at this
  unfold reS reE reV
  rw [hl]
  simp only [if_pos hk, hs, if_true]
  exact ⟨rfl, rfl, rfl⟩
theorem rt1_no {t k : Int} (ht : 0 ≤ t ∧ t ≤ 7) (hk : ¬ (1 ≤ k ∧ k ≤ 7)) : reE (rt1 t) (pkB t 0 7 1) k = 2 := by
  have hl : look (rt1 t) (pkB t 0 7 1) = some ⟨0, 7, 1, 7⟩ := look_at (rt1_ok ht) (x := ⟨0, 7, 1, 7⟩) (List.mem_cons_self ..)
  unfold reE
  rw [hl]
  simp only [if_neg hk]
theorem rt2_ok {t k : Int} (ht : 0 ≤ t ∧ t ≤ 7) (hk : 1 ≤ k ∧ k ≤ 7) : (rt2 t k).Ok := by
  have := reS_ok (rt1_ok ht) (pkB t 0 7 1) k
  rw [(rt2_of ht hk).1] at this
  exact this
theorem rt2_find {t k q : Int} (ht : 0 ≤ t ∧ t ≤ 7) (hk : 1 ≤ k ∧ k ≤ 7) : fiE (rt2 t k) (pkB t 4096 k 2) q = (if (0 ≤ q ∧ q ≤ 7) ∧ sub k q = true then 0 else 5) ∧ fiV (rt2 t k) (pkB t 4096 k 2) q = (if (0 ≤ q ∧ q ≤ 7) ∧ sub k q = true then 7 else 0) ∧ fiE (rt2 t k) (pkB t 0 7 1) q = (if 0 ≤ q ∧ q ≤ 7 then 0 else 5) := by
  have h1 : look (rt2 t k) (pkB t 4096 k 2) = some ⟨4096, k, 2, 7⟩ := look_at (rt2_ok ht hk) (x := ⟨4096, k, 2, 7⟩) (List.mem_cons_of_mem _ (List.mem_cons_self ..))
  have h2 : look (rt2 t k) (pkB t 0 7 1) = some ⟨0, 7, 1, 7⟩ := look_at (rt2_ok ht hk) (x := ⟨0, 7, 1, 7⟩) (List.mem_cons_self ..)
  unfold fiE fiV
  rw [h1, h2]
  refine ⟨rfl, rfl, ?_⟩
  by_cases hq : 0 ≤ q ∧ q ≤ 7
  · have hs : sub 7 q = true := by
      have := sub_seven ⟨q.toNat, by omega⟩
      rwa [show ((q.toNat : Nat) : Int) = q by omega] at this
    rw [if_pos hq]
    exact if_pos ⟨hq, hs⟩
  · rw [if_neg hq]
    exact if_neg fun h => hq h.1
theorem and_sub0 : ∀ k q : Fin 8, (Go.bits .and .i64 (k.val : Int) (q.val : Int) == (q.val : Int)) = sub (k.val : Int) (q.val : Int) := by decide
theorem and_sub {k q : Int} (hk : 1 ≤ k ∧ k ≤ 7) (hq : 0 ≤ q ∧ q ≤ 7) : (Go.bits .and .i64 k q == q) = sub k q := by
  have := and_sub0 ⟨k.toNat, by omega⟩ ⟨q.toNat, by omega⟩
  rwa [show ((k.toNat : Nat) : Int) = k by omega, show ((q.toNat : Nat) : Int) = q by omega] at this
set_option maxRecDepth 20000 in
set_option maxHeartbeats 1000000 in
theorem rights_no {t : Int} (h : ¬ (0 ≤ t ∧ t ≤ 7)) (k q : Int) (w : World) (g : Gr w) : Calls Tryd.prog 8 #[.int .i64 t, .int .i64 k, .int .i64 q] w fun e w' => e = .returned (.bool true) ∧ Fr (fun _ => False) w w' := by
  have H1 := hid fun w => q_new_no (t := t) (n := 1) (fun x => h x.1) w
  have HA := hid fun w0 (f : Fr (fun _ => False) w w0) => awake_f w0 (g.fr f)
  clear h g
  go_enter Tryd.func8, Tryd.ntmps8
  go_wp2_with fail
  refine (H1.out _).mono ?_
  rintro e w1 ⟨rfl, f1⟩
  have F1 := hid f1
  clear f1 H1
  go_wp2_with fail
  refine (HA.out _ F1.out).mono ?_
  rintro e w2 ⟨rfl, f2⟩
  have F2 := hid (F1.out.trans f2)
  clear f2 F1
  go_wp2_with fail
  refine (HA.out _ F2.out).mono ?_
  rintro e w3 ⟨rfl, f3⟩
  have F3 := hid (F2.out.trans f3)
  clear f3 F2 HA
  go_wp2
  go_ret
  exact ⟨by simp, F3.out⟩
set_option maxRecDepth 20000 in
set_option maxHeartbeats 1000000 in
theorem rights_size {t k : Int} (ht : 0 ≤ t ∧ t ≤ 7) (hk : ¬ (1 ≤ k ∧ k ≤ 7)) (q : Int) (w : World) (g : Gr w) : Calls Tryd.prog 8 #[.int .i64 t, .int .i64 k, .int .i64 q] w fun e w' => e = .returned (.bool true) ∧ Fr (fun _ => False) w w' := by
  have HST := hid (Nw.start w g.pos)
  have H1 := hid fun w0 (nw : Nw w w0) => n_new (t := t) (n := 1) ⟨ht, by decide⟩ nw g
  have HA := hid fun w0 (f : Fr (fun _ => False) w w0) => awake_f w0 (g.fr f)
  have H2 : Hid (∀ w' a Z, Kn w w' a Z (newC t 1) → Calls Tryd.prog 13 #[.pointer (some ⟨a, 0, none⟩), .int .i64 7] w' fun e w2 => ∃ Z', e = .returned (.tuple #[.int .u64 (pkB t 0 7 1), .int .i64 0]) ∧ Kn w w2 a Z' (rt1 t) ∧ (∀ i, Z' i → Z i ∨ w'.heap.size ≤ i) ∧ Fr Z w' w2) := fun w' a Z h => n_grant h 7
  have H3 : Hid (∀ w' a Z, Kn w w' a Z (rt1 t) → Calls Tryd.prog 17 #[.pointer (some ⟨a, 0, none⟩), .int .u64 (pkB t 0 7 1), .int .i64 k] w' fun e w2 => ∃ Z', e = .returned (.tuple #[.int .u64 (reV (rt1 t) (pkB t 0 7 1) k), .int .i64 2]) ∧ Kn w w2 a Z' (reS (rt1 t) (pkB t 0 7 1) k) ∧ (∀ i, Z' i → Z i ∨ w'.heap.size ≤ i) ∧ Fr Z w' w2) := fun w' a Z h => by
    have := n_restrict h (b := pkB t 0 7 1) (pkB_range _ _ _ _).1 (pkB_range _ _ _ _).2 k
    rw [rt1_no ht hk] at this
    exact this
  generalize reV (rt1 t) (pkB t 0 7 1) k = rv at *
  generalize reS (rt1 t) (pkB t 0 7 1) k = rs at *
  generalize pkB t 0 7 1 = hb at *
  by_cases k0 : 1 ≤ k
  · have k1 : ¬ k ≤ 7 := fun h => hk ⟨k0, h⟩
    clear hk g
    go_enter Tryd.func8, Tryd.ntmps8
    go_wp2_with fail
    refine (H1.out _ HST.out).mono ?_
    rintro e w1 ⟨a, Z1, rfl, _, h1, _⟩
    have K1 := hid h1
    clear h1 H1 HST
    go_wp2_with fail
    refine (HA.out _ K1.out.nw.fr).mono ?_
    rintro e w2 ⟨rfl, f2⟩
    have K2 := hid (K1.out.kept f2)
    clear f2 K1 HA
    go_wp2_with fail
    refine (H2.out _ _ _ K2.out).mono ?_
    rintro e w3 ⟨Z3, rfl, h3, _, _⟩
    have K3 := hid h3
    clear h3 K2 H2
    go_wp2_with fail
    refine (H3.out _ _ _ K3.out).mono ?_
    rintro e w4 ⟨Z4, rfl, h4, _, _⟩
    have K4 := hid h4
    clear h4 K3 H3
    go_wp2
    go_ret
    exact ⟨by simp, K4.out.nw.fr⟩
  · clear hk g
    go_enter Tryd.func8, Tryd.ntmps8
    go_wp2_with fail
    refine (H1.out _ HST.out).mono ?_
    rintro e w1 ⟨a, Z1, rfl, _, h1, _⟩
    have K1 := hid h1
    clear h1 H1 HST
    go_wp2_with fail
    refine (HA.out _ K1.out.nw.fr).mono ?_
    rintro e w2 ⟨rfl, f2⟩
    have K2 := hid (K1.out.kept f2)
    clear f2 K1 HA
    go_wp2_with fail
    refine (H2.out _ _ _ K2.out).mono ?_
    rintro e w3 ⟨Z3, rfl, h3, _, _⟩
    have K3 := hid h3
    clear h3 K2 H2
    go_wp2_with fail
    refine (H3.out _ _ _ K3.out).mono ?_
    rintro e w4 ⟨Z4, rfl, h4, _, _⟩
    have K4 := hid h4
    clear h4 K3 H3
    go_wp2
    go_ret
    exact ⟨by simp, K4.out.nw.fr⟩
set_option maxRecDepth 20000 in
set_option maxHeartbeats 1000000 in
theorem rights_yes {t k : Int} (ht : 0 ≤ t ∧ t ≤ 7) (hk : 1 ≤ k ∧ k ≤ 7) {q : Int} (hq64 : -9223372036854775808 ≤ q ∧ q ≤ 9223372036854775807) (w : World) (g : Gr w) : Calls Tryd.prog 8 #[.int .i64 t, .int .i64 k, .int .i64 q] w fun e w' => e = .returned (.bool true) ∧ Fr (fun _ => False) w w' := by
  have HST := hid (Nw.start w g.pos)
  have H1 := hid fun w0 (nw : Nw w w0) => n_new (t := t) (n := 1) ⟨ht, by decide⟩ nw g
  have HA := hid fun w0 (f : Fr (fun _ => False) w w0) => awake_f w0 (g.fr f)
  have H2 : Hid (∀ w' a Z, Kn w w' a Z (newC t 1) → Calls Tryd.prog 13 #[.pointer (some ⟨a, 0, none⟩), .int .i64 7] w' fun e w2 => ∃ Z', e = .returned (.tuple #[.int .u64 (pkB t 0 7 1), .int .i64 0]) ∧ Kn w w2 a Z' (rt1 t) ∧ (∀ i, Z' i → Z i ∨ w'.heap.size ≤ i) ∧ Fr Z w' w2) := fun w' a Z h => n_grant h 7
  have H3 : Hid (∀ w' a Z, Kn w w' a Z (rt1 t) → Calls Tryd.prog 17 #[.pointer (some ⟨a, 0, none⟩), .int .u64 (pkB t 0 7 1), .int .i64 k] w' fun e w2 => ∃ Z', e = .returned (.tuple #[.int .u64 (pkB t 4096 k 2), .int .i64 0]) ∧ Kn w w2 a Z' (rt2 t k) ∧ (∀ i, Z' i → Z i ∨ w'.heap.size ≤ i) ∧ Fr Z w' w2) := fun w' a Z h => by
    have := n_restrict h (b := pkB t 0 7 1) (pkB_range _ _ _ _).1 (pkB_range _ _ _ _).2 k
    rw [(rt2_of ht hk).1, (rt2_of ht hk).2.1, (rt2_of ht hk).2.2] at this
    exact this
  have H4 := hid fun (w' : World) a Z (h : Kn w w' a Z (rt2 t k)) => n_find h (b := pkB t 4096 k 2) (pkB_range _ _ _ _).1 (pkB_range _ _ _ _).2 hq64
  have H5 := hid fun (w' : World) a Z (h : Kn w w' a Z (rt2 t k)) => n_find h (b := pkB t 0 7 1) (pkB_range _ _ _ _).1 (pkB_range _ _ _ _).2 hq64
  rw [(rt2_find (q := q) ht hk).1, (rt2_find (q := q) ht hk).2.1] at H4
  rw [(rt2_find (q := q) ht hk).2.2] at H5
  have hand := fun hq => and_sub (q := q) hk hq
  generalize fiV (rt2 t k) (pkB t 0 7 1) q = fv at *
  generalize pkB t 0 7 1 = hb at *
  generalize pkB t 4096 k 2 = sb at *
  obtain ⟨k0, k1⟩ := hk
  clear g hq64
  by_cases hq : 0 ≤ q ∧ q ≤ 7
  · have hnd := hand hq
    clear hand
    rw [if_pos hq] at H5
    cases hs : sub k q with
    | true =>
      rw [if_pos ⟨hq, hs⟩, if_pos ⟨hq, hs⟩] at H4
      rw [hs] at hnd
      obtain ⟨q0, q1⟩ := hq
      clear hs
      go_enter Tryd.func8, Tryd.ntmps8
      go_wp2_with fail
      refine (H1.out _ HST.out).mono ?_
      rintro e w1 ⟨a, Z1, rfl, _, h1, _⟩
      have K1 := hid h1
      clear h1 H1 HST
      go_wp2_with fail
      refine (HA.out _ K1.out.nw.fr).mono ?_
      rintro e w2 ⟨rfl, f2⟩
      have K2 := hid (K1.out.kept f2)
      clear f2 K1 HA
      go_wp2_with fail
      refine (H2.out _ _ _ K2.out).mono ?_
      rintro e w3 ⟨Z3, rfl, h3, _, _⟩
      have K3 := hid h3
      clear h3 K2 H2
      go_wp2_with fail
      refine (H3.out _ _ _ K3.out).mono ?_
      rintro e w4 ⟨Z4, rfl, h4, _, _⟩
      have K4 := hid h4
      clear h4 K3 H3
      go_wp2_with fail
      refine (H4.out _ _ _ K4.out).mono ?_
      rintro e w5 ⟨rfl, h5, _⟩
      have K5 := hid h5
      clear h5 K4 H4
      go_wp2_with fail
      refine (H5.out _ _ _ K5.out).mono ?_
      rintro e w6 ⟨rfl, h6, _⟩
      have K6 := hid h6
      clear h6 K5 H5
      go_wp2
      go_ret
      exact ⟨by first | (simp; done) | (simp; omega), K6.out.nw.fr⟩
    | false =>
      rw [if_neg (fun h => by rw [hs] at h; cases h.2), if_neg (fun h => by rw [hs] at h; cases h.2)] at H4
      rw [hs] at hnd
      obtain ⟨q0, q1⟩ := hq
      clear hs
      go_enter Tryd.func8, Tryd.ntmps8
      go_wp2_with fail
      refine (H1.out _ HST.out).mono ?_
      rintro e w1 ⟨a, Z1, rfl, _, h1, _⟩
      have K1 := hid h1
      clear h1 H1 HST
      go_wp2_with fail
      refine (HA.out _ K1.out.nw.fr).mono ?_
      rintro e w2 ⟨rfl, f2⟩
      have K2 := hid (K1.out.kept f2)
      clear f2 K1 HA
      go_wp2_with fail
      refine (H2.out _ _ _ K2.out).mono ?_
      rintro e w3 ⟨Z3, rfl, h3, _, _⟩
      have K3 := hid h3
      clear h3 K2 H2
      go_wp2_with fail
      refine (H3.out _ _ _ K3.out).mono ?_
      rintro e w4 ⟨Z4, rfl, h4, _, _⟩
      have K4 := hid h4
      clear h4 K3 H3
      go_wp2_with fail
      refine (H4.out _ _ _ K4.out).mono ?_
      rintro e w5 ⟨rfl, h5, _⟩
      have K5 := hid h5
      clear h5 K4 H4
      go_wp2_with fail
      refine (H5.out _ _ _ K5.out).mono ?_
      rintro e w6 ⟨rfl, h6, _⟩
      have K6 := hid h6
      clear h6 K5 H5
      go_wp2
      go_ret
      exact ⟨by first | (simp; done) | (simp; omega), K6.out.nw.fr⟩
  · rw [if_neg hq] at H5
    rw [if_neg (fun h => hq h.1), if_neg (fun h => hq h.1)] at H4
    clear hand
    by_cases q0 : 0 ≤ q
    · have q1 : ¬ q ≤ 7 := fun h => hq ⟨q0, h⟩
      clear hq
      go_enter Tryd.func8, Tryd.ntmps8
      go_wp2_with fail
      refine (H1.out _ HST.out).mono ?_
      rintro e w1 ⟨a, Z1, rfl, _, h1, _⟩
      have K1 := hid h1
      clear h1 H1 HST
      go_wp2_with fail
      refine (HA.out _ K1.out.nw.fr).mono ?_
      rintro e w2 ⟨rfl, f2⟩
      have K2 := hid (K1.out.kept f2)
      clear f2 K1 HA
      go_wp2_with fail
      refine (H2.out _ _ _ K2.out).mono ?_
      rintro e w3 ⟨Z3, rfl, h3, _, _⟩
      have K3 := hid h3
      clear h3 K2 H2
      go_wp2_with fail
      refine (H3.out _ _ _ K3.out).mono ?_
      rintro e w4 ⟨Z4, rfl, h4, _, _⟩
      have K4 := hid h4
      clear h4 K3 H3
      go_wp2_with fail
      refine (H4.out _ _ _ K4.out).mono ?_
      rintro e w5 ⟨rfl, h5, _⟩
      have K5 := hid h5
      clear h5 K4 H4
      go_wp2_with fail
      refine (H5.out _ _ _ K5.out).mono ?_
      rintro e w6 ⟨rfl, h6, _⟩
      have K6 := hid h6
      clear h6 K5 H5
      go_wp2
      go_ret
      exact ⟨by first | (simp; done) | (simp; omega), K6.out.nw.fr⟩
    · clear hq
      go_enter Tryd.func8, Tryd.ntmps8
      go_wp2_with fail
      refine (H1.out _ HST.out).mono ?_
      rintro e w1 ⟨a, Z1, rfl, _, h1, _⟩
      have K1 := hid h1
      clear h1 H1 HST
      go_wp2_with fail
      refine (HA.out _ K1.out.nw.fr).mono ?_
      rintro e w2 ⟨rfl, f2⟩
      have K2 := hid (K1.out.kept f2)
      clear f2 K1 HA
      go_wp2_with fail
      refine (H2.out _ _ _ K2.out).mono ?_
      rintro e w3 ⟨Z3, rfl, h3, _, _⟩
      have K3 := hid h3
      clear h3 K2 H2
      go_wp2_with fail
      refine (H3.out _ _ _ K3.out).mono ?_
      rintro e w4 ⟨Z4, rfl, h4, _, _⟩
      have K4 := hid h4
      clear h4 K3 H3
      go_wp2_with fail
      refine (H4.out _ _ _ K4.out).mono ?_
      rintro e w5 ⟨rfl, h5, _⟩
      have K5 := hid h5
      clear h5 K4 H4
      go_wp2_with fail
      refine (H5.out _ _ _ K5.out).mono ?_
      rintro e w6 ⟨rfl, h6, _⟩
      have K6 := hid h6
      clear h6 K5 H5
      go_wp2
      go_ret
      exact ⟨by first | (simp; done) | (simp; omega), K6.out.nw.fr⟩
theorem rights_walk (t k q : Int) (hq64 : -9223372036854775808 ≤ q ∧ q ≤ 9223372036854775807) (w : World) (g : Gr w) : Calls Tryd.prog 8 #[.int .i64 t, .int .i64 k, .int .i64 q] w fun e w' => e = .returned (.bool true) ∧ Fr (fun _ => False) w w' := by
  by_cases ht : 0 ≤ t ∧ t ≤ 7
  · by_cases hk : 1 ≤ k ∧ k ≤ 7
    · exact rights_yes ht hk hq64 w g
    · exact rights_size ht hk q w g
  · exact rights_no ht k q w g
end Go.Proofs.YtcleheapfgapaaaDoor
