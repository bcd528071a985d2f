/-
  The law CapsMany: what it rests on, and its walk.
-/
import Derived.Test.YtcleheapfgapaaaDoorCaState
namespace Go.Proofs.YtcleheapfgapaaaDoor
open Go.RowKit

theorem scan_is {L : List Sl} {lo m : Int} (hp : L.Pairwise fun x y => x.s < y.s) (h0 : lo ≤ m) (h1 : ∀ q, lo ≤ q → q < m → ∃ x ∈ L, x.s = q) (h2 : ∀ x ∈ L, x.s ≠ m) : (scan L lo).2 = m := by
  obtain ⟨_, g2, g3, _, g5, _⟩ := scan_spec L lo hp (fun _ _ => trivial)
  rcases Int.lt_trichotomy (scan L lo).2 m with h | h | h
  · obtain ⟨x, hx, e⟩ := h1 _ g2 h
    exact (g3 x hx e).elim
  · exact h
  · obtain ⟨x, hx, e⟩ := g5 m h0 h
    exact (h2 x hx e).elim
/-- So many objects, each at its own slot. -/
structure In1 (t : Int) (c : Ct) (k : Nat) : Prop where
  ok : c.Ok
  t : c.T = t
  nx : c.nx = k + 1
  len : c.L.length = k
  all : ∀ x ∈ c.L, x.s < k ∧ x.a = x.s
  has : ∀ i : Int, 0 ≤ i → i < k → ∃ x ∈ c.L, x.s = i
section
variable {t : Int} {c : Ct} {k : Nat}
theorem In1.start (ht : 0 ≤ t ∧ t ≤ 7) : In1 t (newC t 1) 0 := ⟨newC_ok ⟨ht, by decide⟩, rfl, rfl, rfl, (fun x hx => by cases hx), fun i h0 h1 => by omega⟩
theorem In1.scan (h : In1 t c k) : (scan c.L 0).2 = k := scan_is h.ok.srt (by omega) (fun q h0 h1 => h.has q h0 h1) (fun x hx e => by have := (h.all x hx).1; omega)
theorem In1.step (h : In1 t c k) (hk : k < 4096) : grE c k = 0 ∧ In1 t (grS c k) (k + 1) := by
  have hc : c.can 0 4096 := ⟨by rw [h.scan]; omega, by rw [h.nx]; omega⟩
  have hok := grS_ok h.ok (k : Int)
  have e1 : grS c (k : Int) = plS c 0 4096 7 (k : Int) := if_neg (by omega)
  refine ⟨(if_neg (by omega)).trans (if_pos hc), ?_⟩
  rw [e1] at hok ⊢
  obtain ⟨p1, p2, p3, p4⟩ := plS_yes (r := 7) (a := (k : Int)) hc
  have hs : c.slot 0 7 (k : Int) = ⟨k, 7, c.nx, k⟩ := by unfold Ct.slot; rw [h.scan]
  refine ⟨hok, p1.trans h.t, by rw [p2, h.nx]; omega, by rw [p3, h.len], fun x hx => ?_, fun i h0 h1 => ?_⟩
  · rcases (p4 x).1 hx with hx | hx
    · have := h.all x hx; exact ⟨by omega, this.2⟩
    · rw [hs] at hx; subst hx; exact ⟨by show (k : Int) < _; omega, rfl⟩
  · by_cases e : i = k
    · exact ⟨_, (p4 _).2 (.inr rfl), by rw [hs]; exact e.symm⟩
    · obtain ⟨x, hx, e2⟩ := h.has i h0 (by omega)
      exact ⟨x, (p4 x).2 (.inl hx), e2⟩
theorem In1.full (h : In1 t c 4096) : grE c 1 = 10 ∧ grS c 1 = c := by
  have hc : ¬ c.can 0 4096 := fun h2 => by have := h2.1; rw [h.scan] at this; omega
  exact ⟨(if_neg (by omega)).trans (if_neg hc), (if_neg (by omega)).trans (if_neg hc)⟩
end
theorem count_one {p : Sl → Bool} : ∀ l : List Sl, l.Pairwise (fun x y => ¬ (p x = true ∧ p y = true)) → (∃ x ∈ l, p x = true) → l.countP p = 1
  | [], _, h => by obtain ⟨x, hx, _⟩ := h; cases hx
  | x :: l, hp, h => by
    rw [List.pairwise_cons] at hp
    by_cases hx : p x = true
    · rw [List.countP_cons_of_pos hx, List.countP_eq_zero.2 fun y hy hy2 => hp.1 y hy ⟨hx, hy2⟩]
    · rw [List.countP_cons_of_neg (by simpa using hx)]
      obtain ⟨y, hy, hy2⟩ := h
      rcases List.mem_cons.1 hy with rfl | hy
      · exact (hx hy2).elim
      · exact count_one l hp.2 ⟨y, hy, hy2⟩
/-- One of them is revoked. -/
structure In2 (t u : Int) (c : Ct) : Prop where
  ok : c.Ok
  t : c.T = t
  nx : c.nx = 4097
  len : c.L.length = 4095
  all : ∀ x ∈ c.L, x.s < 4096 ∧ x.s ≠ u
  has : ∀ i : Int, 0 ≤ i → i < 4096 → i ≠ u → ∃ x ∈ c.L, x.s = i
theorem In1.revoke {t u : Int} {c : Ct} (h : In1 t c 4096) (u0 : 0 ≤ u) (u1 : u < 4096) : rvN c u = 1 ∧ In2 t u (rvS c u) := by
  have h1 : c.L.countP (fun x => decide (x.a = u)) = 1 := by
    refine count_one c.L (List.pairwise_iff_getElem.2 fun i j hi hj hij ⟨e1, e2⟩ => ?_) ?_
    · have hxy := List.pairwise_iff_getElem.1 h.ok.srt i j hi hj hij
      have a1 := (h.all _ (List.getElem_mem hi)).2
      have a2 := (h.all _ (List.getElem_mem hj)).2
      simp at e1 e2
      omega
    · obtain ⟨x, hx, e⟩ := h.has u u0 u1
      exact ⟨x, hx, by have := (h.all x hx).2; simp; omega⟩
  have h2 := List.length_eq_countP_add_countP (l := c.L) (fun x => decide (x.a = u))
  have h3 : (c.L.filter fun x => decide (x.a ≠ u)).length = 4095 := by
    rw [← List.countP_eq_length_filter]
    have e : (fun x : Sl => decide (x.a ≠ u)) = fun x => decide (¬ decide (x.a = u) = true) := by funext x; simp
    rw [e]
    have := h.len
    omega
  refine ⟨by unfold rvN; rw [h3, h.len], rvS_ok h.ok u, h.t, by show c.nx = 4097; rw [h.nx]; rfl, h3, fun x hx => ?_, fun i h0 h1 hne => ?_⟩
  · obtain ⟨hx1, hx2⟩ := List.mem_filter.1 hx
    have := h.all x hx1
    simp at hx2
    exact ⟨this.1, by omega⟩
  · obtain ⟨x, hx, e⟩ := h.has i h0 h1
    have := (h.all x hx).2
    exact ⟨x, List.mem_filter.2 ⟨hx, by simp; omega⟩, e⟩
/-- Another object came to the free slot, and so many shares of it. -/
structure In3 (t u : Int) (c : Ct) (j : Nat) : Prop where
  ok : c.Ok
  t : c.T = t
  nx : c.nx = 4098 + j
  len : c.L.length = 4096 + j
  new : (⟨u, 7, 4097, 5000⟩ : Sl) ∈ c.L
  all : ∀ x ∈ c.L, x.s < 4096 + j
  has : ∀ i : Int, 4096 ≤ i → i < 4096 + j → ∃ x ∈ c.L, x.s = i
theorem In2.grant {t u : Int} {c : Ct} (h : In2 t u c) (u0 : 0 ≤ u) (u1 : u < 4096) : grE c 5000 = 0 ∧ grV c 5000 = pkB t u 7 4097 ∧ In3 t u (grS c 5000) 0 := by
  have hs : (scan c.L 0).2 = u := scan_is h.ok.srt u0 (fun q h0 h1 => h.has q h0 (by omega) (by omega)) (fun x hx => (h.all x hx).2)
  have hc : c.can 0 4096 := ⟨by rw [hs]; exact u1, by rw [h.nx]; decide⟩
  have hok := grS_ok h.ok 5000
  have e1 : grS c 5000 = plS c 0 4096 7 5000 := if_neg (by decide)
  refine ⟨(if_neg (by decide)).trans (if_pos hc), ?_, ?_⟩
  · refine ((if_neg (by decide)).trans (if_pos hc)).trans ?_
    unfold Sl.bits Ct.slot
    rw [hs, h.t, h.nx]
  · rw [e1] at hok ⊢
    obtain ⟨p1, p2, p3, p4⟩ := plS_yes (r := 7) (a := 5000) hc
    have hsl : c.slot 0 7 5000 = ⟨u, 7, 4097, 5000⟩ := by unfold Ct.slot; rw [hs, h.nx]
    refine ⟨hok, p1.trans h.t, by rw [p2, h.nx]; rfl, by rw [p3, h.len], (p4 _).2 (.inr hsl.symm), fun x hx => ?_, fun i h0 h1 => by omega⟩
    rcases (p4 x).1 hx with hx | hx
    · have := (h.all x hx).1; omega
    · rw [hsl] at hx; subst hx; show u < _; omega
section
variable {t u : Int} {c : Ct} {j : Nat}
theorem In3.look (h : In3 t u c j) : look c (pkB t u 7 4097) = some ⟨u, 7, 4097, 5000⟩ := by
  have := look_at h.ok h.new
  unfold Sl.bits at this
  rw [h.t] at this
  exact this
theorem In3.scan (h : In3 t u c j) : (scan c.L 4096).2 = 4096 + j := scan_is h.ok.srt (by omega) (fun q h0 h1 => h.has q h0 h1) (fun x hx e => by have := h.all x hx; omega)
theorem In3.step (h : In3 t u c j) (hj : j < 64) : reE c (pkB t u 7 4097) 3 = 0 ∧ In3 t u (reS c (pkB t u 7 4097) 3) (j + 1) := by
  have hc : c.can 4096 4160 := ⟨by rw [h.scan]; omega, by rw [h.nx]; omega⟩
  have hok := reS_ok h.ok (pkB t u 7 4097) 3
  have e1 : reS c (pkB t u 7 4097) 3 = plS c 4096 4160 3 5000 := by unfold reS; rw [h.look]; rfl
  have e2 : reE c (pkB t u 7 4097) 3 = plE c 4096 4160 := by unfold reE; rw [h.look]; rfl
  refine ⟨e2.trans (if_pos hc), ?_⟩
  rw [e1] at hok ⊢
  obtain ⟨p1, p2, p3, p4⟩ := plS_yes (r := 3) (a := 5000) hc
  have hsl : (c.slot 4096 3 5000).s = 4096 + j := h.scan
  refine ⟨hok, p1.trans h.t, by rw [p2, h.nx]; omega, by rw [p3, h.len]; omega, (p4 _).2 (.inl h.new), fun x hx => ?_, fun i h0 h1 => ?_⟩
  · rcases (p4 x).1 hx with hx | hx
    · have := h.all x hx; omega
    · rw [hx, hsl]; omega
  · by_cases e : i = 4096 + j
    · exact ⟨_, (p4 _).2 (.inr rfl), by rw [hsl, e]⟩
    · obtain ⟨x, hx, e2⟩ := h.has i h0 (by omega)
      exact ⟨x, (p4 x).2 (.inl hx), e2⟩
theorem In3.full (h : In3 t u c 64) : reE c (pkB t u 7 4097) 3 = 10 ∧ reS c (pkB t u 7 4097) 3 = c := by
  have hc : ¬ c.can 4096 4160 := fun h2 => by have := h2.1; rw [h.scan] at this; omega
  have e1 : reS c (pkB t u 7 4097) 3 = plS c 4096 4160 3 5000 := by unfold reS; rw [h.look]; rfl
  have e2 : reE c (pkB t u 7 4097) 3 = plE c 4096 4160 := by unfold reE; rw [h.look]; rfl
  exact ⟨e2.trans (if_neg hc), e1.trans (if_neg hc)⟩
end
/-- 'int(uint(n) % m)' is a number below m. -/
theorem modu (x : Int) (m : Nat) (M : Int) (hM : M = (m : Int)) (h0 : 0 < m) (h1 : m ≤ 65536) : ∃ n : Nat, wrap64 ((IntKind.u64.wrap x).tmod M) = (n : Int) ∧ n < m := by
  subst hM
  have hu : 0 ≤ IntKind.u64.wrap x := by rw [IntKind.wrap_u64]; omega
  have he : (IntKind.u64.wrap x).tmod (m : Int) = (IntKind.u64.wrap x) % (m : Int) := Int.tmod_eq_emod_of_nonneg hu
  have h2 := Int.emod_nonneg (IntKind.u64.wrap x) (b := (m : Int)) (by omega)
  have h3 := Int.emod_lt_of_pos (IntKind.u64.wrap x) (b := (m : Int)) (by omega)
  refine ⟨((IntKind.u64.wrap x) % (m : Int)).toNat, ?_, by omega⟩
  rw [he]
  generalize (IntKind.u64.wrap x) % (m : Int) = z at *
  unfold wrap64
  omega
set_option maxRecDepth 20000 in
set_option maxHeartbeats 1000000 in
theorem many_no {t : Int} (h : ¬ (0 ≤ t ∧ t ≤ 7)) (x : Int) (w : World) (g : Gr w) : Calls Tryd.prog 6 #[.int .i64 t, .int .i64 x] w fun e w' => e = .returned (.bool true) ∧ Fr (fun _ => False) w w' := by
  have H1 := hid fun w => q_new_no (t := t) (n := 1) (fun x => h x.1) w
  have HA := hid fun w0 (f : Fr (fun _ => False) w w0) => awake_f w0 (g.fr f)
  clear h g
  go_enter Tryd.func6, Tryd.ntmps6
  go_wp2_with fail
  refine (H1.out _).mono ?_
  rintro e w1 ⟨rfl, f1⟩
  have F1 := hid f1
  clear f1 H1
  go_wp2_with fail
  refine (HA.out _ F1.out).mono ?_
  rintro e w2 ⟨rfl, f2⟩
  have F2 := hid (F1.out.trans f2)
  clear f2 F1
  go_wp2_with fail
  refine (HA.out _ F2.out).mono ?_
  rintro e w3 ⟨rfl, f3⟩
  have F3 := hid (F2.out.trans f3)
  clear f3 F2 HA
  go_wp2
  go_ret
  exact ⟨by simp, F3.out⟩
set_option maxRecDepth 20000 in
set_option maxHeartbeats 2000000 in
theorem many_yes {t : Int} (ht : 0 ≤ t ∧ t ≤ 7) (x : Int) (w : World) (g : Gr w) : Calls Tryd.prog 6 #[.int .i64 t, .int .i64 x] w fun e w' => e = .returned (.bool true) ∧ Fr (fun _ => False) w w' := by
  have HST := hid (Nw.start w g.pos)
  have H1 := hid fun w0 (nw : Nw w w0) => n_new (t := t) (n := 1) ⟨ht, by decide⟩ nw g
  have HA := hid fun w0 (f : Fr (fun _ => False) w w0) => awake_f w0 (g.fr f)
  obtain ⟨u, hu, hu4⟩ := modu x 4096 4096 rfl (by decide) (by decide)
  have HT := hid ht
  clear g ht
  go_enter Tryd.func6, Tryd.ntmps6
  go_wp2_with fail
  refine (H1.out _ HST.out).mono ?_
  rintro e w1 ⟨a, Z1, rfl, _, h1, _⟩
  have K1 := hid h1
  clear h1 H1 HST
  go_wp2_with fail
  refine (HA.out _ K1.out.nw.fr).mono ?_
  rintro e w2 ⟨rfl, f2⟩
  have K2 := hid (K1.out.kept f2)
  clear f2 K1 HA
  go_wp2
  go_loopw [7, 8, 9, 33] (fun _ _ _ i wr => ∃ (k : Nat) (Z : Nat → Prop) (c : Ct), k ≤ 4096 ∧ i = .int .i64 k ∧ Kn w wr a Z c ∧ In1 t c k) (fun _ _ _ i _ => 4096 - (intOf i).toNat)
  case atStart => exact ⟨0, Z1, _, by omega, rfl, K2.out, In1.start HT.out⟩
  case round =>
    obtain ⟨k, Z, c, hk, rfl, hK, hI⟩ := hrel
    have K := hid hK
    have I := hid hI
    clear hK hI K2
    by_cases hlt : k < 4096
    · have HS := hid (I.out.step hlt)
      have H2 := hid (n_grant K.out (k : Int))
      rw [HS.out.1] at H2
      have I2 := hid HS.out.2
      clear HS I
      generalize grS c (k : Int) = c2 at *
      generalize grV c (k : Int) = v2 at *
      go_wp2_with fail
      refine H2.out.mono ?_
      rintro e w3 ⟨Z3, rfl, h3, _, _⟩
      have K3 := hid h3
      clear h3 H2 K
      go_wp2
      go_roundw
      case rel => exact ⟨k + 1, Z3, c2, by omega, by go_num, K3.out, I2.out⟩
      case measure => simp [intOf]; omega
    · obtain rfl : k = 4096 := by omega
      have H2 := hid (n_grant K.out 1)
      rw [I.out.full.1, I.out.full.2] at H2
      obtain ⟨r1, r2⟩ := I.out.revoke (u := u) (by omega) (by omega)
      have H3 := hid fun (w' : World) Z (h : Kn w w' a Z c) => n_revoke h (u : Int)
      rw [r1] at H3
      obtain ⟨g1, g2, g3⟩ := r2.grant (by omega) (by omega)
      have H4 := hid fun (w' : World) Z (h : Kn w w' a Z (rvS c u)) => n_grant h 5000
      rw [g1, g2] at H4
      have I3 := hid g3
      clear r1 r2 g1 g2 g3 I
      generalize grV c 1 = v1 at *
      generalize grS (rvS c u) 5000 = c3 at *
      have HPK := pkB_range t u 7 4097
      have HKR : KR t u 7 4097 := by have := HT.out; unfold KR; omega
      have H7 := hid fun w => e_unpack (h := pkB t u 7 4097) HPK.1 HPK.2 w
      rw [(back_un HKR).1, (back_un HKR).2.1, (back_un HKR).2.2.1, (back_un HKR).2.2.2.1, (back_un HKR).2.2.2.2] at H7
      have H5 := hid fun (w' : World) Z c (h : Kn w w' a Z c) => n_restrict h HPK.1 HPK.2 3
      have HI5 := hid fun c j (h : In3 t u c j) (hj : j < 64) => h.step hj
      have HI6 := hid fun c (h : In3 t u c 64) => h.full
      clear HPK HKR
      generalize pkB t u 7 4097 = hb at *
      go_wp2_with fail
      refine H2.out.mono ?_
      rintro e w3 ⟨Z3, rfl, h3, _, _⟩
      have K3 := hid h3
      clear h3 H2 K
      go_wp2_with fail
      refine (H3.out _ _ K3.out).mono ?_
      rintro e w4 ⟨Z4, rfl, h4, _, _⟩
      have K4 := hid h4
      clear h4 H3 K3
      go_wp2_with fail
      refine (H4.out _ _ K4.out).mono ?_
      rintro e w5 ⟨Z5, rfl, h5, _, _⟩
      have K5 := hid h5
      clear h5 H4 K4
      go_wp2
      go_loopw [15, 16, 62] (fun _ _ i wr => ∃ (j : Nat) (Z : Nat → Prop) (c : Ct), j ≤ 64 ∧ i = .int .i64 j ∧ Kn w wr a Z c ∧ In3 t u c j) (fun _ _ i _ => 64 - (intOf i).toNat)
      case atStart => exact ⟨0, Z5, _, by omega, rfl, K5.out, I3.out⟩
      case round =>
        obtain ⟨j, Z, c, hj, rfl, hK, hI⟩ := hrel
        have K := hid hK
        have I := hid hI
        clear hK hI K5 I3
        by_cases hlt2 : j < 64
        · have HS := hid (HI5.out c j I.out hlt2)
          have H6 := hid (H5.out _ _ _ K.out)
          rw [HS.out.1] at H6
          have I2 := hid HS.out.2
          clear HS I
          generalize reS c hb 3 = c2 at *
          generalize reV c hb 3 = v2 at *
          go_wp2_with fail
          refine H6.out.mono ?_
          rintro e w6 ⟨Z6, rfl, h6, _, _⟩
          have K6 := hid h6
          clear h6 H6 K
          go_wp2
          go_roundw
          case rel => exact ⟨j + 1, Z6, c2, by omega, by go_num, K6.out, I2.out⟩
          case measure => simp [intOf]; omega
        · obtain rfl : j = 64 := by omega
          have HS := hid (HI6.out c I.out)
          have H6 := hid (H5.out _ _ _ K.out)
          rw [HS.out.1, HS.out.2] at H6
          have HL := I.out.len
          have H8 := hid fun (w' : World) Z (h : Kn w w' a Z c) => n_count h
          rw [HL] at H8
          clear HS I HL
          generalize reV c hb 3 = v2 at *
          go_wp2_with fail
          refine H6.out.mono ?_
          rintro e w6 ⟨Z6, rfl, h6, _, _⟩
          have K6 := hid h6
          clear h6 H6 K
          go_wp2_with fail
          refine (H7.out _).mono ?_
          rintro e w7 ⟨rfl, f7⟩
          have K7 := hid ((K6.out.kept f7).alloc (.cells #[.int .i64 t, .int .i64 (u : Int), .int .i64 7, .int .i64 4097] 53))
          have b1 := (Kb.new w7 t u 7 4097).c1
          clear f7 K6 H7
          go_wp2_with fail
          refine (H8.out _ _ K7.out).mono ?_
          rintro e w8 ⟨rfl, h8, _⟩
          have K8 := hid h8
          clear h8 K7 H8
          go_wp2
          go_ret
          exact ⟨by simp, K8.out.nw.fr⟩
theorem many_walk (t x : Int) (w : World) (g : Gr w) : Calls Tryd.prog 6 #[.int .i64 t, .int .i64 x] w fun e w' => e = .returned (.bool true) ∧ Fr (fun _ => False) w w' := by
  by_cases ht : 0 ≤ t ∧ t ≤ 7
  · exact many_yes ht x w g
  · exact many_no ht x w g
end Go.Proofs.YtcleheapfgapaaaDoor
