/-
  What the calls of package caps do: a slot is given out (give, Grant, Restrict).
-/
import Derived.Test.YtcleheapfgapaaaDoorCaCallsC
import Derived.Test.YtcleheapfgapaaaDoorCaPlace
namespace Go.Proofs.YtcleheapfgapaaaDoor
open Go.RowKit

section
variable {w w1 : World} {a o ob s sb : Nat} {c : Ct}
/-- A shelf lies anew, with the same. -/
theorem Kt.same_o (h : Kt w a o ob s sb c) (f : Fr (fun i => i = ob) w w1) (hs : Sf.Sh w1 o ob (tkn c.L 0 4096)) : Kt w1 a o ob s sb c := by
  obtain ⟨⟨n1, n2⟩, ⟨n3, n4⟩, ⟨n5, n6⟩, n7, n8⟩ := h.ne
  obtain ⟨cs, g1, g2⟩ := h.st
  exact ⟨⟨cs, (f.block a h.lta n2).trans g1, g2⟩, hs, h.shs.carry f (fun e => n7 e.symm) (fun e => n8 e.symm) (by have := h.sho.b0; omega), h.ne, h.a0, h.ok⟩
theorem Kt.same_s (h : Kt w a o ob s sb c) (f : Fr (fun i => i = sb) w w1) (hs : Sf.Sh w1 s sb (tkn c.L 4096 64)) : Kt w1 a o ob s sb c := by
  obtain ⟨⟨n1, n2⟩, ⟨n3, n4⟩, ⟨n5, n6⟩, n7, n8⟩ := h.ne
  obtain ⟨cs, g1, g2⟩ := h.st
  exact ⟨⟨cs, (f.block a h.lta n4).trans g1, g2⟩, h.sho.carry f n6 n8 (by have := h.shs.b0; omega), hs, h.ne, h.a0, h.ok⟩
/-- The table's cells, behind a turn of a shelf. -/
theorem Kt.moved_o (h : Kt w a o ob s sb c) {k : Nat} (hk : k < 4096) (w1 : World) (f : Fr (fun i => i = ob) w w1) : w1.cell? ⟨a, 1, none⟩ = some (.int .i64 c.nx) ∧ w1.cell? ⟨a, 4 + k * 3, none⟩ = some (.int .i64 (hA c.L k)) ∧ w1.cell? ⟨a, 4 + k * 3 + 1, none⟩ = some (.int .i64 (hR c.L k)) ∧ w1.cell? ⟨a, 4 + k * 3 + 2, none⟩ = some (.int .i64 (hN c.L k)) ∧ ∀ i, w1.frozen? ⟨a, i, none⟩ = false := by
  have hb := f.block a h.lta h.ne.1.2
  refine ⟨(World.cell?_of_block hb).trans h.c1, (World.cell?_of_block hb).trans (h.ca k (by omega)), (World.cell?_of_block hb).trans (h.cr k (by omega)), (World.cell?_of_block hb).trans (h.cn k (by omega)), fun i => ?_⟩
  obtain ⟨cs, g1, _⟩ := h.st
  rw [g1] at hb
  simp [World.frozen?, hb]
theorem Kt.moved_s (h : Kt w a o ob s sb c) {k : Nat} (hk : k < 64) (w1 : World) (f : Fr (fun i => i = sb) w w1) : w1.cell? ⟨a, 1, none⟩ = some (.int .i64 c.nx) ∧ w1.cell? ⟨a, 4 + (4096 + k) * 3, none⟩ = some (.int .i64 (hA c.L ((4096 + k : Nat) : Int))) ∧ w1.cell? ⟨a, 4 + (4096 + k) * 3 + 1, none⟩ = some (.int .i64 (hR c.L ((4096 + k : Nat) : Int))) ∧ w1.cell? ⟨a, 4 + (4096 + k) * 3 + 2, none⟩ = some (.int .i64 (hN c.L ((4096 + k : Nat) : Int))) ∧ ∀ i, w1.frozen? ⟨a, i, none⟩ = false := by
  have hb := f.block a h.lta h.ne.2.1.2
  refine ⟨(World.cell?_of_block hb).trans h.c1, (World.cell?_of_block hb).trans (h.ca (4096 + k) (by omega)), (World.cell?_of_block hb).trans (h.cr (4096 + k) (by omega)), (World.cell?_of_block hb).trans (h.cn (4096 + k) (by omega)), fun i => ?_⟩
  obtain ⟨cs, g1, _⟩ := h.st
  rw [g1] at hb
  simp [World.frozen?, hb]
end
/-- The lowest free slot is given out. -/
theorem can_o {c : Ct} (hc : c.Ok) (hx : c.nx ≠ 17592186044416) : c.can 0 4096 ↔ Sf.low (tkn c.L 0 4096) < 4096 := by
  have h := low_scan hc.srt 0 4096
  have hn := hc.nx
  constructor
  · intro h2; exact h.1.2 (by have := h2.1; omega)
  · intro h2; exact ⟨by have := h.1.1 h2; omega, by omega⟩
set_option maxRecDepth 20000 in
set_option maxHeartbeats 1000000 in
theorem k_give_o {w : World} {a o ob s sb : Nat} {c : Ct} (h : Kt w a o ob s sb c) {x r : Int} (hx : 0 ≤ x) (hr : 1 ≤ r ∧ r ≤ 7) : Calls Tryd.prog 26 #[.pointer (some ⟨a, 0, none⟩), .pointer (some ⟨o, 0, none⟩), .int .i64 0, .int .i64 x, .int .i64 r] w fun e w' => e = .returned (.tuple #[.int .u64 (plV c 0 4096 r), .int .i64 (plE c 0 4096)]) ∧ Kt w' a o ob s sb (plS c 0 4096 r x) ∧ Fr (fun i => i = a ∨ i = ob) w w' := by
  have HH := hid h
  have c1 := h.c1
  by_cases hm : c.nx = 17592186044416
  · have hn : ¬ c.can 0 4096 := fun h2 => by have := h2.2; omega
    have e1 : plV c 0 4096 r = 0 := if_neg hn
    have e2 : plE c 0 4096 = 10 := if_neg hn
    have e3 : plS c 0 4096 r x = c := if_neg hn
    rw [e1, e2, e3]
    rw [hm] at c1
    clear h hm hn e1 e2 e3
    go_enter Tryd.func26, Tryd.ntmps26
    go_wp2
    go_ret2
    exact ⟨by simp, HH.out, Fr.refl _ _⟩
  have HT := hid (Sf.s_take h.sho)
  have hcan := can_o h.ok hm
  have htl := tkn_length c.L 0 4096
  have hnx := h.ok.nx
  by_cases hlo : Sf.low (tkn c.L 0 4096) < 4096
  case neg =>
    have hn : ¬ c.can 0 4096 := fun h2 => hlo (hcan.1 h2)
    have e1 : plV c 0 4096 r = 0 := if_neg hn
    have e2 : plE c 0 4096 = 10 := if_neg hn
    have e3 : plS c 0 4096 r x = c := if_neg hn
    have t1 : Sf.takE (tkn c.L 0 4096) = 13 := by unfold Sf.takE; rw [htl, if_neg hlo]
    have t2 : Sf.takS (tkn c.L 0 4096) = tkn c.L 0 4096 := by unfold Sf.takS; rw [htl, if_neg hlo]
    rw [e1, e2, e3]
    rw [t1, t2] at HT
    generalize Sf.takV (tkn c.L 0 4096) = tv at *
    clear h hn e1 e2 e3 t1 t2 hlo hcan htl
    generalize hnn : c.nx = nx at c1 hm
    clear hnn
    go_enter Tryd.func26, Tryd.ntmps26
    go_wp2_with fail
    refine HT.out.mono ?_
    rintro e w1 ⟨rfl, h1, f1⟩
    have H1 := hid (HH.out.same_o f1 h1)
    have F1 := hid (f1.mono (S' := fun i => i = a ∨ i = ob) fun i _ e => Or.inr e)
    clear h1 f1 HT
    go_wp2
    go_ret2
    exact ⟨by simp, H1.out, F1.out⟩
  have hyes := hcan.2 hlo
  have e2 : plE c 0 4096 = 0 := if_pos hyes
  have e1 : plV c 0 4096 r = (c.slot 0 r 0).bits c.T := if_pos hyes
  have hsc := (low_scan h.ok.srt 0 4096).2 hlo
  have t0 : Sf.takV (tkn c.L 0 4096) = (Sf.low (tkn c.L 0 4096) : Int) := by unfold Sf.takV; rw [htl, if_pos hlo]
  have t1 : Sf.takE (tkn c.L 0 4096) = 0 := by unfold Sf.takE; rw [htl, if_pos hlo]
  have t2 : Sf.takS (tkn c.L 0 4096) = (tkn c.L 0 4096).set (Sf.low (tkn c.L 0 4096)) true := by unfold Sf.takS; rw [htl, if_pos hlo]
  rw [t0, t1, t2] at HT
  generalize Sf.low (tkn c.L 0 4096) = k at *
  have hok := plS_ok (lo := 0) (hi := 4096) (r := r) (a := x) h.ok (by omega) (by omega) hr hx
  obtain ⟨p1, p2, _, p4⟩ := plS_yes (lo := 0) (hi := 4096) (r := r) (a := x) hyes
  have hsl : c.slot 0 r x = ⟨((k : Nat) : Int), r, c.nx, x⟩ := by unfold Ct.slot; rw [hsc]; congr 1 <;> omega
  rw [hsl] at p4
  have hL := sAt_put hok.srt p4
  have e1' : (c.slot 0 r 0).bits c.T = pkB c.T ((k : Nat) : Int) r c.nx := by
    show pkB c.T (scan c.L 0).2 r c.nx = _
    rw [hsc]; congr 1 <;> omega
  have hkr : KR c.T ((k : Nat) : Int) r c.nx := by have := h.ok.t; unfold KR; omega
  rw [e2, e1, e1']
  generalize hcc : plS c 0 4096 r x = c' at *
  have HF := hid fun (w1 : World) (f : Fr (fun i => i = ob) w w1) (hs : Sf.Sh w1 o ob ((tkn c.L 0 4096).set k true)) => HH.out.fill_o hlo f hs hok ⟨((k : Nat) : Int), r, c.nx, x⟩ p1 hL
  rw [p2] at HF
  dsimp only at HF
  have HV : Hid (hR c'.L ((k : Nat) : Int) = r ∧ hN c'.L ((k : Nat) : Int) = c.nx ∧ c'.T = c.T) := by
    refine ⟨?_, ?_, p1⟩
    · unfold hR; rw [hL, if_pos rfl]; rfl
    · unfold hN; rw [hL, if_pos rfl]; rfl
  clear hL p1 p2 p4 hsl e1 e1' e2 t0 t1 t2 hsc hyes hcan hok hcc htl hx h
  have HPK := hid fun w => h_pack c.T ((k : Nat) : Int) r c.nx w
  rw [pkE_yes hkr] at HPK
  have HMV := hid (HH.out.moved_o (k := k) hlo)
  clear hkr hr
  generalize pkB c.T ((k : Nat) : Int) r c.nx = pv at *
  go_enter Tryd.func26, Tryd.ntmps26
  go_wp2_with fail
  refine HT.out.mono ?_
  rintro e w1 ⟨rfl, h1, f1⟩
  have H1 := hid (HF.out w1 f1 h1)
  have F1 := hid (f1.mono (S' := fun i => i = a ∨ i = ob) fun i _ e => Or.inr e)
  obtain ⟨d1, d2, d3, d4, g⟩ := HMV.out w1 f1
  clear h1 f1 HT HF HMV c1
  go_wp2_with fail
  go_region
  go_wp2_with fail
  have HKE := hid (k_key (H1.out.kept (Fr.refl _ _).drew) k (by omega))
  rw [HV.out.1, HV.out.2.1, HV.out.2.2] at HKE
  refine HKE.out.mono ?_
  rintro e w2 ⟨rfl, f2⟩
  have H2 := hid ((H1.out.kept (Fr.refl _ _).drew).kept f2)
  have F2 := hid (((((((F1.out.setCell (p := ⟨a, 4 + k * 3, none⟩) (Or.inl rfl) _).setCell (p := ⟨a, 4 + k * 3 + 1, none⟩) (Or.inl rfl) _).setCell (p := ⟨a, 4 + k * 3 + 2, none⟩) (Or.inl rfl) _).setCell (p := ⟨a, 1, none⟩) (Or.inl rfl) _).drew).trans (f2.mono fun _ _ e => e.elim)))
  clear f2 H1 F1 HKE HV
  go_wp2_with fail
  refine (HPK.out _).mono ?_
  rintro e w3 ⟨rfl, f3⟩
  have H3 := hid (H2.out.kept f3)
  have F3 := hid (F2.out.trans (f3.mono fun _ _ e => e.elim))
  clear f3 H2 F2 HPK
  go_wp2
  go_ret2
  exact ⟨by simp, H3.out, F3.out⟩
/-- The lowest free slot is given out. -/
theorem can_s {c : Ct} (hc : c.Ok) (hx : c.nx ≠ 17592186044416) : c.can 4096 4160 ↔ Sf.low (tkn c.L 4096 64) < 64 := by
  have h := low_scan hc.srt 4096 64
  have hn := hc.nx
  constructor
  · intro h2; exact h.1.2 (by have := h2.1; omega)
  · intro h2; exact ⟨by have := h.1.1 h2; omega, by omega⟩
set_option maxRecDepth 20000 in
set_option maxHeartbeats 1000000 in
theorem k_give_s {w : World} {a o ob s sb : Nat} {c : Ct} (h : Kt w a o ob s sb c) {x r : Int} (hx : 0 ≤ x) (hr : 1 ≤ r ∧ r ≤ 7) : Calls Tryd.prog 26 #[.pointer (some ⟨a, 0, none⟩), .pointer (some ⟨s, 0, none⟩), .int .i64 4096, .int .i64 x, .int .i64 r] w fun e w' => e = .returned (.tuple #[.int .u64 (plV c 4096 4160 r), .int .i64 (plE c 4096 4160)]) ∧ Kt w' a o ob s sb (plS c 4096 4160 r x) ∧ Fr (fun i => i = a ∨ i = sb) w w' := by
  have HH := hid h
  have c1 := h.c1
  by_cases hm : c.nx = 17592186044416
  · have hn : ¬ c.can 4096 4160 := fun h2 => by have := h2.2; omega
    have e1 : plV c 4096 4160 r = 0 := if_neg hn
    have e2 : plE c 4096 4160 = 10 := if_neg hn
    have e3 : plS c 4096 4160 r x = c := if_neg hn
    rw [e1, e2, e3]
    rw [hm] at c1
    clear h hm hn e1 e2 e3
    go_enter Tryd.func26, Tryd.ntmps26
    go_wp2
    go_ret2
    exact ⟨by simp, HH.out, Fr.refl _ _⟩
  have HT := hid (Sf.s_take h.shs)
  have hcan := can_s h.ok hm
  have htl := tkn_length c.L 4096 64
  have hnx := h.ok.nx
  by_cases hlo : Sf.low (tkn c.L 4096 64) < 64
  case neg =>
    have hn : ¬ c.can 4096 4160 := fun h2 => hlo (hcan.1 h2)
    have e1 : plV c 4096 4160 r = 0 := if_neg hn
    have e2 : plE c 4096 4160 = 10 := if_neg hn
    have e3 : plS c 4096 4160 r x = c := if_neg hn
    have t1 : Sf.takE (tkn c.L 4096 64) = 13 := by unfold Sf.takE; rw [htl, if_neg hlo]
    have t2 : Sf.takS (tkn c.L 4096 64) = tkn c.L 4096 64 := by unfold Sf.takS; rw [htl, if_neg hlo]
    rw [e1, e2, e3]
    rw [t1, t2] at HT
    generalize Sf.takV (tkn c.L 4096 64) = tv at *
    clear h hn e1 e2 e3 t1 t2 hlo hcan htl
    generalize hnn : c.nx = nx at c1 hm
    clear hnn
    go_enter Tryd.func26, Tryd.ntmps26
    go_wp2_with fail
    refine HT.out.mono ?_
    rintro e w1 ⟨rfl, h1, f1⟩
    have H1 := hid (HH.out.same_s f1 h1)
    have F1 := hid (f1.mono (S' := fun i => i = a ∨ i = sb) fun i _ e => Or.inr e)
    clear h1 f1 HT
    go_wp2
    go_ret2
    exact ⟨by simp, H1.out, F1.out⟩
  have hyes := hcan.2 hlo
  have e2 : plE c 4096 4160 = 0 := if_pos hyes
  have e1 : plV c 4096 4160 r = (c.slot 4096 r 0).bits c.T := if_pos hyes
  have hsc := (low_scan h.ok.srt 4096 64).2 hlo
  have t0 : Sf.takV (tkn c.L 4096 64) = (Sf.low (tkn c.L 4096 64) : Int) := by unfold Sf.takV; rw [htl, if_pos hlo]
  have t1 : Sf.takE (tkn c.L 4096 64) = 0 := by unfold Sf.takE; rw [htl, if_pos hlo]
  have t2 : Sf.takS (tkn c.L 4096 64) = (tkn c.L 4096 64).set (Sf.low (tkn c.L 4096 64)) true := by unfold Sf.takS; rw [htl, if_pos hlo]
  rw [t0, t1, t2] at HT
  generalize Sf.low (tkn c.L 4096 64) = k at *
  have hok := plS_ok (lo := 4096) (hi := 4160) (r := r) (a := x) h.ok (by omega) (by omega) hr hx
  obtain ⟨p1, p2, _, p4⟩ := plS_yes (lo := 4096) (hi := 4160) (r := r) (a := x) hyes
  have hsl : c.slot 4096 r x = ⟨((4096 + k : Nat) : Int), r, c.nx, x⟩ := by unfold Ct.slot; rw [hsc]; congr 1 <;> omega
  rw [hsl] at p4
  have hL := sAt_put hok.srt p4
  have e1' : (c.slot 4096 r 0).bits c.T = pkB c.T ((4096 + k : Nat) : Int) r c.nx := by
    show pkB c.T (scan c.L 4096).2 r c.nx = _
    rw [hsc]; congr 1 <;> omega
  have hkr : KR c.T ((4096 + k : Nat) : Int) r c.nx := by have := h.ok.t; unfold KR; omega
  rw [e2, e1, e1']
  generalize hcc : plS c 4096 4160 r x = c' at *
  have HF := hid fun (w1 : World) (f : Fr (fun i => i = sb) w w1) (hs : Sf.Sh w1 s sb ((tkn c.L 4096 64).set k true)) => HH.out.fill_s hlo f hs hok ⟨((4096 + k : Nat) : Int), r, c.nx, x⟩ p1 hL
  rw [p2] at HF
  dsimp only at HF
  have HV : Hid (hR c'.L ((4096 + k : Nat) : Int) = r ∧ hN c'.L ((4096 + k : Nat) : Int) = c.nx ∧ c'.T = c.T) := by
    refine ⟨?_, ?_, p1⟩
    · unfold hR; rw [hL, if_pos rfl]; rfl
    · unfold hN; rw [hL, if_pos rfl]; rfl
  clear hL p1 p2 p4 hsl e1 e1' e2 t0 t1 t2 hsc hyes hcan hok hcc htl hx h
  have HPK := hid fun w => h_pack c.T ((4096 + k : Nat) : Int) r c.nx w
  rw [pkE_yes hkr] at HPK
  have HMV := hid (HH.out.moved_s (k := k) hlo)
  clear hkr hr
  generalize pkB c.T ((4096 + k : Nat) : Int) r c.nx = pv at *
  go_enter Tryd.func26, Tryd.ntmps26
  go_wp2_with fail
  refine HT.out.mono ?_
  rintro e w1 ⟨rfl, h1, f1⟩
  have H1 := hid (HF.out w1 f1 h1)
  have F1 := hid (f1.mono (S' := fun i => i = a ∨ i = sb) fun i _ e => Or.inr e)
  obtain ⟨d1, d2, d3, d4, g⟩ := HMV.out w1 f1
  clear h1 f1 HT HF HMV c1
  go_wp2_with fail
  go_region
  go_wp2_with fail
  have HKE := hid (k_key (H1.out.kept (Fr.refl _ _).drew) (4096 + k) (by omega))
  rw [HV.out.1, HV.out.2.1, HV.out.2.2] at HKE
  refine HKE.out.mono ?_
  rintro e w2 ⟨rfl, f2⟩
  have H2 := hid ((H1.out.kept (Fr.refl _ _).drew).kept f2)
  have F2 := hid (((((((F1.out.setCell (p := ⟨a, 4 + (4096 + k) * 3, none⟩) (Or.inl rfl) _).setCell (p := ⟨a, 4 + (4096 + k) * 3 + 1, none⟩) (Or.inl rfl) _).setCell (p := ⟨a, 4 + (4096 + k) * 3 + 2, none⟩) (Or.inl rfl) _).setCell (p := ⟨a, 1, none⟩) (Or.inl rfl) _).drew).trans (f2.mono fun _ _ e => e.elim)))
  clear f2 H1 F1 HKE HV
  go_wp2_with fail
  refine (HPK.out _).mono ?_
  rintro e w3 ⟨rfl, f3⟩
  have H3 := hid (H2.out.kept f3)
  have F3 := hid (F2.out.trans (f3.mono fun _ _ e => e.elim))
  clear f3 H2 F2 HPK
  go_wp2
  go_ret2
  exact ⟨by simp, H3.out, F3.out⟩
end Go.Proofs.YtcleheapfgapaaaDoor
