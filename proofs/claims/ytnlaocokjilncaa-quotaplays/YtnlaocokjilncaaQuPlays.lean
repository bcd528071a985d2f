/-
  In every order of calls a quota answers as the document says, and has what it says: the walk of the law QuotaPlays.
-/
import Derived.Test.YtnlaocokjilncaaQuDone
import Derived.Deep.RegionHeld3
namespace Go.Proofs.Ytnlaocokjilncaa
open Go.RowKit

/-- In the middle of a region one may go on with a condition that says more. -/
theorem held_switch {P : Program} {md : Region.Mode} {ops : Array Oper} {Q : Exit → Act → World → Prop} {S S2 : World → Prop} (hs : ∀ w, S2 w → S w) : ∀ (fuel : Nat) (listed : Array Bool) (a : Act) (w : World), wpAnyH P md ops Q S2 fuel listed a w → wpAnyH P md ops Q S fuel listed a w
  | 0, _, _, _, h => h
  | fuel + 1, _, _, _, h => ⟨h.1, fun i hi => wpOp_mono (fun a' w' h' => ⟨hs w' h'.1, held_switch hs fuel _ a' w' h'.2⟩) (h.2 i hi)⟩
section
variable {W w : World} {B R : Nat} {s t : QS}
/-- A copy is made, something is asked of what it was made of, and the copy goes on in its place. -/
theorem p_copy (h : Bo W w B s R t) {b p : Int} (r : Rt b p) : Calls Try.prog 11 #[.pointer (some ⟨B, 0, none⟩)] w fun e w' => ∃ C, e = .returned (.pointer (some ⟨C, 0, none⟩)) ∧ w.heap.size ≤ C ∧
    Calls Try.prog 12 #[.pointer (some ⟨B, 0, none⟩), .complex .f64 (fb b) (fb p)] w' fun e w'' => ∃ z, e = .returned (.int .i64 z) ∧ Bo W w'' C s R t ∧ Fr (fun i => i = B) w w'' :=
  (q_copy h.q.q).mono fun _ w1 ⟨C, he, hl, hq, f⟩ => by
    have g1 := h.q.lt; have g2 := h.r.lt; have g3 := h.q.nw.le
    refine ⟨C, he, hl, ?_⟩
    refine (q_res (h.q.kept f).q r).mono fun _ w2 ⟨he2, _, f2⟩ => ⟨_, he2, ⟨⟨hq.carry f2 (fun e => by omega), by omega, (h.q.kept f).nw.on f2 (fun i e => by subst e; exact h.q.le)⟩, (h.r.kept f).carry f2 (fun e => h.ne e.symm), h.le, by omega⟩, (Fr.wide f).trans f2⟩
end
set_option maxRecDepth 20000 in
set_option maxHeartbeats 8000000 in
theorem plays_bad (b p : Int) (ad : Option Addr) (l : List (Int × Int × Int)) (cap : Nat) (w : World) (r1 : ¬ Rt b p) : Calls Try.prog 3 #[.int .i64 b, .int .i64 p, .slice ad l.length cap] w fun e w' => e = .returned (.bool true) ∧ Fr (fun _ => False) w w' := by
  have HO1 := hid fun w => o_no r1 w
  have HQ := hid fun w => q_new_no wrong_raw w
  have HA := hid fun w => awake_f w
  clear r1
  go_enter Try.func3, Try.ntmps3
  go_wp2_with fail
  refine (HO1.out _).mono ?_
  rintro e w1 ⟨rfl, f1⟩
  have HN1 := hid ((Nw.kept (Nw.start w) f1).alloc (.cells #[.int .i64 0, .int .i64 0] 26))
  have HA1 := hid (At.new w1 0 0)
  clear f1 HO1
  go_wp2_with fail
  refine (HQ.out _).mono ?_
  rintro e w2 ⟨rfl, f2⟩
  have HN2 := hid (HN1.out.kept f2)
  clear f2 HN1 HQ HA1
  go_wp2_with fail
  refine (HA.out _).mono ?_
  rintro e w3 ⟨rfl, hn⟩
  have HN3 := hid (HN2.out.kept hn)
  clear hn HN2
  go_wp2
  go_ret
  exact ⟨by simp, HN3.out.fr⟩
set_option maxRecDepth 20000 in
set_option maxHeartbeats 8000000 in
theorem plays_long (b p : Int) (ad : Option Addr) (l : List (Int × Int × Int)) (cap : Nat) (w : World) (r1 : Rt b p) (hlen : 1000 < l.length) (hlm : l.length ≤ 9223372036854775807) : Calls Try.prog 3 #[.int .i64 b, .int .i64 p, .slice ad l.length cap] w fun e w' => e = .returned (.bool true) ∧ Fr (fun _ => False) w w' := by
  have HO1 := hid fun w => o_yes r1 w
  have HQ := hid fun w0 (h : Nw w w0) => n_new r1 h
  have HA := hid fun w => awake_f w
  clear r1
  generalize fb b = x1 at *
  generalize fb p = x2 at *
  go_enter Try.func3, Try.ntmps3
  go_wp2_with fail
  refine (HO1.out _).mono ?_
  rintro e w1 ⟨rfl, f1⟩
  have HN1 := hid ((Nw.kept (Nw.start w) f1).alloc (.cells #[.int .i64 b, .int .i64 p] 26))
  have HA1 := hid (At.new w1 b p)
  clear f1 HO1
  go_wp2_with fail
  refine (HQ.out _ HN1.out).mono ?_
  rintro e w2 ⟨B, rfl, hl, hq, f2⟩
  have HQ2 := hid hq
  have HN2 := hid hq.nw
  have HA2 := hid (HA1.out.kept f2)
  clear hl hq f2 HN1 HQ HA1
  clear HQ2 HA2
  go_wp2_with fail
  refine (HA.out _).mono ?_
  rintro e w3 ⟨rfl, hn⟩
  have HN3 := hid (HN2.out.kept hn)
  clear hn HN2
  go_wp2
  go_ret
  exact ⟨by simp, HN3.out.fr⟩
set_option maxRecDepth 20000 in
set_option maxHeartbeats 8000000 in
theorem plays_loop (b p : Int) (ad : Option Addr) (l : List (Int × Int × Int)) (cap : Nat) (w : World) (r1 : Rt b p) (hl : OpsAt w ad l) (hll : ¬ 1000 < l.length) : Calls Try.prog 3 #[.int .i64 b, .int .i64 p, .slice ad l.length cap] w fun e w' => e = .returned (.bool true) ∧ Fr (fun _ => False) w w' := by
  have HO1 := hid fun w => o_yes r1 w
  have HQ := hid fun w0 (h : Nw w w0) => n_new r1 h
  have HA := hid fun w => awake_f w
  have HL := hid hl
  have HC := hid fun w0 B s R (h : Bo w w0 B s R s) => p_copy h r1
  have HNQ := hid (newQ_ok r1)
  clear r1 hl
  generalize fb b = x1 at *
  generalize fb p = x2 at *
  go_enter Try.func3, Try.ntmps3
  go_wp2_with fail
  refine (HO1.out _).mono ?_
  rintro e w1 ⟨rfl, f1⟩
  have HN1 := hid ((Nw.kept (Nw.start w) f1).alloc (.cells #[.int .i64 b, .int .i64 p] 26))
  have HA1 := hid (At.new w1 b p)
  clear f1 HO1
  go_wp2_with fail
  refine (HQ.out _ HN1.out).mono ?_
  rintro e w2 ⟨B, rfl, hl, hq, f2⟩
  have HQ2 := hid hq
  have HN2 := hid hq.nw
  have HA2 := hid (HA1.out.kept f2)
  clear hl hq f2 HN1 HQ HA1
  clear HN2
  go_wp2_with fail
  refine (HA.out _).mono ?_
  rintro e w3 ⟨rfl, f3⟩
  have HQ3 := hid (HQ2.out.kept f3)
  have HA3 := hid (HA2.out.kept f3)
  clear f3 HQ2 HA2 HA
  have a0 := HA3.out.c0
  have a1 := HA3.out.c1
  have HB4 : Hid (Bo w (w3.alloc (.cells #[.int .i64 b, .int .i64 p, .int .i64 0, .int .i64 0, .int .i64 0, .int .i64 0] 36)) B (newQ b p) w3.heap.size (newQ b p)) := by
    have g1 := HQ3.out.lt
    have g2 := HQ3.out.nw.le
    exact ⟨HQ3.out.alloc _, ⟨heap_alloc_new _ _, HNQ.out⟩, g2, by omega⟩
  clear HNQ HQ3 HA3
  go_wp2
  clear a0 a1
  generalize w3.heap.size = R at *
  go_loopw [10, 54] (fun q i wr => ∃ (j B : Nat) (s : QS), j ≤ l.length ∧ i = .int .i64 j ∧ q = .pointer (some ⟨B, 0, none⟩) ∧ Hid (Bo w wr B s R s)) (fun _ i _ => l.length - (intOf i).toNat)
  case atStart => exact ⟨0, B, _, by omega, rfl, rfl, HB4⟩
  case round =>
    clear HB4
    obtain ⟨j, B, s, hj, rfl, rfl, HB0⟩ := hrel
    by_cases hlt : j < l.length
    · obtain ⟨bb, off, rfl, hbb, hc1, hc2, hc3⟩ := HL.out.fr HB0.out.q.nw.fr j hlt
      generalize hk : l[j] = o at hc1 hc2 hc3
      obtain ⟨kind, a, c⟩ := o
      simp only at hc1 hc2 hc3
      have HX := hid (Bx.new wr kind a c)
      have HB := hid (HB0.out.alloc (.cells #[.int .i64 kind, .int .i64 a, .int .i64 c] 38))
      have RLT : Hid (R < wr.heap.size) := HB0.out.r.lt
      have HNX : Hid (¬ BR B R wr.heap.size) := fun e => by have := HB0.out.q.lt; have := HB0.out.r.lt; rcases e with e | e <;> omega
      clear hk HL HB0
      by_cases hin : 1 ≤ kind ∧ kind ≤ 5
      · obtain ⟨i1, i2⟩ := hin
        have HD := hid (done_same HB.out.drew kind a c)
        have HOK := hid (stepS_ok HB.out.q.q.ok kind a c)
        generalize stepS s kind a c = s' at *
        have P1 := hid fun w0 (h : Qn w w0 B s') => n_lim h
        have P2 := hid fun w0 (h : Qn w w0 B s') => n_cha h
        have P3 := hid fun w0 (h : Qn w w0 B s') => n_rsv h
        have S1 := hid fun w => same_yes HOK.out.lim w
        have S2 := hid fun w => same_yes HOK.out.char w
        have S3 := hid fun w => same_yes HOK.out.rsv w
        generalize fb s'.cb = v1 at *
        generalize fb s'.cp = v2 at *
        generalize fb s'.rb = v3 at *
        generalize fb s'.rp = v4 at *
        generalize fb s'.lb = v5 at *
        generalize fb s'.lp = v6 at *
        clear HB
        go_wp2_with fail
        clear hc1 hc2 hc3 hbb
        have p0 := HX.out.c0
        have p1 := HX.out.c1
        have p2 := HX.out.c2
        refine wp_region_held_drew (S := fun w' => w'.cell? ⟨wr.heap.size, 0, none⟩ = some (.int .i64 kind) ∧ w'.cell? ⟨wr.heap.size, 1, none⟩ = some (.int .i64 a) ∧ w'.cell? ⟨wr.heap.size, 2, none⟩ = some (.int .i64 c)) (by kernel_rfl) ?_ (fun hHeld => ?_)
        · go_keep
        refine wpAnyH_take (i := 0) (oi := ⟨some 72, _, _, _, _, _⟩) (v := ?v57) rfl (by kernel_rfl) (by kernel_rfl) (by kernel_rfl) (fun _ _ _ h => h) (Or.inl ⟨by rfl, ?hy57⟩) (by assumption) ?rest57
        case hy57 => (intro w hSw; (try dsimp only at hSw); go_simp; try with_reducible rfl)
        simp only [Act.put, List.setIfInBounds_toArray, List.set_cons_zero, List.set_cons_succ]
        refine wpAnyH_take (i := 1) (oi := ⟨some 73, _, _, _, _, _⟩) (v := ?v58) rfl (by kernel_rfl) (by kernel_rfl) (by kernel_rfl) (fun _ _ _ h => h) (Or.inl ⟨by rfl, ?hy58⟩) (by assumption) ?rest58
        case hy58 => (intro w hSw; (try dsimp only at hSw); go_simp; try with_reducible rfl)
        simp only [Act.put, List.setIfInBounds_toArray, List.set_cons_zero, List.set_cons_succ]
        refine wpAnyH_take (i := 2) (oi := ⟨some 74, _, _, _, _, _⟩) (v := ?v59) rfl (by kernel_rfl) (by kernel_rfl) (by kernel_rfl) (fun _ _ _ h => h) (Or.inl ⟨by rfl, ?hy59⟩) (by assumption) ?rest59
        case hy59 => (intro w hSw; (try dsimp only at hSw); go_simp; try with_reducible rfl)
        simp only [Act.put, List.setIfInBounds_toArray, List.set_cons_zero, List.set_cons_succ]
        refine wpAnyH_ready (rs := [3]) (by kernel_rfl) (by simp) ?_
        refine AllReadyH.cons (o := ⟨some 75, _, _, _, _, _⟩) rfl (fun K hK => ?_) AllReadyH.nil
        go_simp
        go_wp2_with (go_at_call 13; refine HD.out.mono ?_; rintro e w5 ⟨rfl, h5, f5⟩; have H5 := hid h5; have X5 := hid (HX.out.carry ((Fr.refl (BR B R) _).drew.trans f5) HNX.out); have p50 := X5.out.c0; have p51 := X5.out.c1; have p52 := X5.out.c2; clear h5 f5)
        refine hK.out _ _ ?_ (fun hHeld => ?_)
        · go_keep
        clear hK K
        have r50 := H5.out.r.c0
        have r51 := H5.out.r.c1
        have r52 := H5.out.r.c2
        have r53 := H5.out.r.c3
        have r54 := H5.out.r.c4
        have r55 := H5.out.r.c5
        refine held_switch (S2 := fun w' => (w'.cell? ⟨wr.heap.size, 0, none⟩ = some (.int .i64 kind) ∧ w'.cell? ⟨wr.heap.size, 1, none⟩ = some (.int .i64 a) ∧ w'.cell? ⟨wr.heap.size, 2, none⟩ = some (.int .i64 c)) ∧ (w'.cell? ⟨R, 0, none⟩ = some (.int .i64 s'.lb) ∧ w'.cell? ⟨R, 1, none⟩ = some (.int .i64 s'.lp) ∧ w'.cell? ⟨R, 2, none⟩ = some (.int .i64 s'.cb) ∧ w'.cell? ⟨R, 3, none⟩ = some (.int .i64 s'.cp) ∧ w'.cell? ⟨R, 4, none⟩ = some (.int .i64 s'.rb) ∧ w'.cell? ⟨R, 5, none⟩ = some (.int .i64 s'.rp))) (fun _ h => h.1) _ _ _ _ ?_
        have hHeld2 : (w5.cell? ⟨wr.heap.size, 0, none⟩ = some (.int .i64 kind) ∧ w5.cell? ⟨wr.heap.size, 1, none⟩ = some (.int .i64 a) ∧ w5.cell? ⟨wr.heap.size, 2, none⟩ = some (.int .i64 c)) ∧ (w5.cell? ⟨R, 0, none⟩ = some (.int .i64 s'.lb) ∧ w5.cell? ⟨R, 1, none⟩ = some (.int .i64 s'.lp) ∧ w5.cell? ⟨R, 2, none⟩ = some (.int .i64 s'.cb) ∧ w5.cell? ⟨R, 3, none⟩ = some (.int .i64 s'.cp) ∧ w5.cell? ⟨R, 4, none⟩ = some (.int .i64 s'.rb) ∧ w5.cell? ⟨R, 5, none⟩ = some (.int .i64 s'.rp)) := ⟨⟨p50, p51, p52⟩, r50, r51, r52, r53, r54, r55⟩
        clear hHeld
        refine wpAnyH_take (i := 4) (oi := ⟨some 76, _, _, _, _, _⟩) (v := ?v60) rfl (by kernel_rfl) (by kernel_rfl) (by kernel_rfl) (fun _ _ _ h => h) (Or.inl ⟨by rfl, ?hy60⟩) (by assumption) ?rest60
        case hy60 => (intro w hSw; (try dsimp only at hSw); go_simp; try with_reducible rfl)
        simp only [Act.put, List.setIfInBounds_toArray, List.set_cons_zero, List.set_cons_succ]
        refine wpAnyH_take (i := 5) (oi := ⟨some 77, _, _, _, _, _⟩) (v := ?v61) rfl (by kernel_rfl) (by kernel_rfl) (by kernel_rfl) (fun _ _ _ h => h) (Or.inl ⟨by rfl, ?hy61⟩) (by assumption) ?rest61
        case hy61 => (intro w hSw; (try dsimp only at hSw); go_simp; try with_reducible rfl)
        simp only [Act.put, List.setIfInBounds_toArray, List.set_cons_zero, List.set_cons_succ]
        refine wpAnyH_take (i := 6) (oi := ⟨some 78, _, _, _, _, _⟩) (v := ?v62) rfl (by kernel_rfl) (by kernel_rfl) (by kernel_rfl) (fun _ _ _ h => h) (Or.inl ⟨by rfl, ?hy62⟩) (by assumption) ?rest62
        case hy62 => (intro w hSw; (try dsimp only at hSw); go_simp; try with_reducible rfl)
        simp only [Act.put, List.setIfInBounds_toArray, List.set_cons_zero, List.set_cons_succ]
        refine wpAnyH_take (i := 8) (oi := ⟨some 80, _, _, _, _, _⟩) (v := ?v63) rfl (by kernel_rfl) (by kernel_rfl) (by kernel_rfl) (fun _ _ _ h => h) (Or.inl ⟨by rfl, ?hy63⟩) (by assumption) ?rest63
        case hy63 => (intro w hSw; (try dsimp only at hSw); go_simp; try with_reducible rfl)
        simp only [Act.put, List.setIfInBounds_toArray, List.set_cons_zero, List.set_cons_succ]
        refine wpAnyH_take (i := 9) (oi := ⟨some 81, _, _, _, _, _⟩) (v := ?v64) rfl (by kernel_rfl) (by kernel_rfl) (by kernel_rfl) (fun _ _ _ h => h) (Or.inl ⟨by rfl, ?hy64⟩) (by assumption) ?rest64
        case hy64 => (intro w hSw; (try dsimp only at hSw); go_simp; try with_reducible rfl)
        simp only [Act.put, List.setIfInBounds_toArray, List.set_cons_zero, List.set_cons_succ]
        refine wpAnyH_take (i := 10) (oi := ⟨some 82, _, _, _, _, _⟩) (v := ?v65) rfl (by kernel_rfl) (by kernel_rfl) (by kernel_rfl) (fun _ _ _ h => h) (Or.inl ⟨by rfl, ?hy65⟩) (by assumption) ?rest65
        case hy65 => (intro w hSw; (try dsimp only at hSw); go_simp; try with_reducible rfl)
        simp only [Act.put, List.setIfInBounds_toArray, List.set_cons_zero, List.set_cons_succ]
        refine wpAnyH_take (i := 11) (oi := ⟨some 83, _, _, _, _, _⟩) (v := ?v66) rfl (by kernel_rfl) (by kernel_rfl) (by kernel_rfl) (fun _ _ _ h => h) (Or.inl ⟨by rfl, ?hy66⟩) (by assumption) ?rest66
        case hy66 => (intro w hSw; (try dsimp only at hSw); go_simp; try with_reducible rfl)
        simp only [Act.put, List.setIfInBounds_toArray, List.set_cons_zero, List.set_cons_succ]
        refine wpAnyH_ready (rs := [7]) (by kernel_rfl) (by simp) ?_
        refine AllReadyH.cons (o := ⟨some 79, _, _, _, _, _⟩) rfl (fun K hK => ?_) AllReadyH.nil
        go_simp
        go_wp2_with (go_at_call 15; refine (P1.out _ H5.out.q).mono ?_; rintro e w6 ⟨rfl, _, f⟩; have H6 := hid (H5.out.kept f); have X6 := hid (X5.out.kept f); have p60 := X6.out.c0; have p61 := X6.out.c1; have p62 := X6.out.c2; have r60 := H6.out.r.c0; have r61 := H6.out.r.c1; have r62 := H6.out.r.c2; have r63 := H6.out.r.c3; have r64 := H6.out.r.c4; have r65 := H6.out.r.c5; clear f)
        refine hK.out _ _ ?_ (fun hHeld => ?_)
        · go_keep
        clear hK K
        refine wpAnyH_ready (rs := [12]) (by kernel_rfl) (by simp) ?_
        refine AllReadyH.cons (o := ⟨some 84, _, _, _, _, _⟩) rfl (fun K hK => ?_) AllReadyH.nil
        go_simp
        go_wp2_with (go_at_call 14; refine (S1.out _).mono ?_; rintro e w7 ⟨rfl, f⟩; have H7 := hid (H6.out.kept f); have X7 := hid (X6.out.kept f); have p70 := X7.out.c0; have p71 := X7.out.c1; have p72 := X7.out.c2; have r70 := H7.out.r.c0; have r71 := H7.out.r.c1; have r72 := H7.out.r.c2; have r73 := H7.out.r.c3; have r74 := H7.out.r.c4; have r75 := H7.out.r.c5; clear f)
        refine hK.out _ _ ?_ (fun hHeld => ?_)
        · go_keep
        clear hK K
        refine wpAnyH_take (i := 13) (oi := ⟨some 85, _, _, _, _, _⟩) (v := ?v67) rfl (by kernel_rfl) (by kernel_rfl) (by kernel_rfl) (fun _ _ _ h => h) (Or.inl ⟨by rfl, ?hy67⟩) (by assumption) ?rest67
        case hy67 => (intro w hSw; (try dsimp only at hSw); go_simp; try with_reducible rfl)
        simp only [Act.put, List.setIfInBounds_toArray, List.set_cons_zero, List.set_cons_succ]
        refine wpAnyH_take (i := 14) (oi := ⟨some 86, _, _, _, _, _⟩) (v := ?v68) rfl (by kernel_rfl) (by kernel_rfl) (by kernel_rfl) (fun _ _ _ h => h) (Or.inl ⟨by rfl, ?hy68⟩) (by assumption) ?rest68
        case hy68 => (intro w hSw; (try dsimp only at hSw); go_simp; try with_reducible rfl)
        simp only [Act.put, List.setIfInBounds_toArray, List.set_cons_zero, List.set_cons_succ]
        refine wpAnyH_take (i := 15) (oi := ⟨some 87, _, _, _, _, _⟩) (v := ?v69) rfl (by kernel_rfl) (by kernel_rfl) (by kernel_rfl) (fun _ _ _ h => h) (Or.inl ⟨by rfl, ?hy69⟩) (by assumption) ?rest69
        case hy69 => (intro w hSw; (try dsimp only at hSw); go_simp; try with_reducible rfl)
        simp only [Act.put, List.setIfInBounds_toArray, List.set_cons_zero, List.set_cons_succ]
        refine wpAnyH_take (i := 16) (oi := ⟨some 88, _, _, _, _, _⟩) (v := ?v70) rfl (by kernel_rfl) (by kernel_rfl) (by kernel_rfl) (fun _ _ _ h => h) (Or.inl ⟨by rfl, ?hy70⟩) (by assumption) ?rest70
        case hy70 => (intro w hSw; (try dsimp only at hSw); go_simp; try with_reducible rfl)
        simp only [Act.put, List.setIfInBounds_toArray, List.set_cons_zero, List.set_cons_succ]
        refine wpAnyH_take (i := 18) (oi := ⟨some 90, _, _, _, _, _⟩) (v := ?v71) rfl (by kernel_rfl) (by kernel_rfl) (by kernel_rfl) (fun _ _ _ h => h) (Or.inl ⟨by rfl, ?hy71⟩) (by assumption) ?rest71
        case hy71 => (intro w hSw; (try dsimp only at hSw); go_simp; try with_reducible rfl)
        simp only [Act.put, List.setIfInBounds_toArray, List.set_cons_zero, List.set_cons_succ]
        refine wpAnyH_take (i := 19) (oi := ⟨some 91, _, _, _, _, _⟩) (v := ?v72) rfl (by kernel_rfl) (by kernel_rfl) (by kernel_rfl) (fun _ _ _ h => h) (Or.inl ⟨by rfl, ?hy72⟩) (by assumption) ?rest72
        case hy72 => (intro w hSw; (try dsimp only at hSw); go_simp; try with_reducible rfl)
        simp only [Act.put, List.setIfInBounds_toArray, List.set_cons_zero, List.set_cons_succ]
        refine wpAnyH_take (i := 20) (oi := ⟨some 92, _, _, _, _, _⟩) (v := ?v73) rfl (by kernel_rfl) (by kernel_rfl) (by kernel_rfl) (fun _ _ _ h => h) (Or.inl ⟨by rfl, ?hy73⟩) (by assumption) ?rest73
        case hy73 => (intro w hSw; (try dsimp only at hSw); go_simp; try with_reducible rfl)
        simp only [Act.put, List.setIfInBounds_toArray, List.set_cons_zero, List.set_cons_succ]
        refine wpAnyH_take (i := 21) (oi := ⟨some 93, _, _, _, _, _⟩) (v := ?v74) rfl (by kernel_rfl) (by kernel_rfl) (by kernel_rfl) (fun _ _ _ h => h) (Or.inl ⟨by rfl, ?hy74⟩) (by assumption) ?rest74
        case hy74 => (intro w hSw; (try dsimp only at hSw); go_simp; try with_reducible rfl)
        simp only [Act.put, List.setIfInBounds_toArray, List.set_cons_zero, List.set_cons_succ]
        refine wpAnyH_ready (rs := [17]) (by kernel_rfl) (by simp) ?_
        refine AllReadyH.cons (o := ⟨some 89, _, _, _, _, _⟩) rfl (fun K hK => ?_) AllReadyH.nil
        go_simp
        go_wp2_with (go_at_call 16; refine (P2.out _ H7.out.q).mono ?_; rintro e w8 ⟨rfl, _, f⟩; have H8 := hid (H7.out.kept f); have X8 := hid (X7.out.kept f); have p80 := X8.out.c0; have p81 := X8.out.c1; have p82 := X8.out.c2; have r80 := H8.out.r.c0; have r81 := H8.out.r.c1; have r82 := H8.out.r.c2; have r83 := H8.out.r.c3; have r84 := H8.out.r.c4; have r85 := H8.out.r.c5; clear f)
        refine hK.out _ _ ?_ (fun hHeld => ?_)
        · go_keep
        clear hK K
        refine wpAnyH_ready (rs := [22]) (by kernel_rfl) (by simp) ?_
        refine AllReadyH.cons (o := ⟨some 94, _, _, _, _, _⟩) rfl (fun K hK => ?_) AllReadyH.nil
        go_simp
        go_wp2_with (go_at_call 14; refine (S2.out _).mono ?_; rintro e w9 ⟨rfl, f⟩; have H9 := hid (H8.out.kept f); have X9 := hid (X8.out.kept f); have p90 := X9.out.c0; have p91 := X9.out.c1; have p92 := X9.out.c2; have r90 := H9.out.r.c0; have r91 := H9.out.r.c1; have r92 := H9.out.r.c2; have r93 := H9.out.r.c3; have r94 := H9.out.r.c4; have r95 := H9.out.r.c5; clear f)
        refine hK.out _ _ ?_ (fun hHeld => ?_)
        · go_keep
        clear hK K
        refine wpAnyH_take (i := 23) (oi := ⟨some 95, _, _, _, _, _⟩) (v := ?v75) rfl (by kernel_rfl) (by kernel_rfl) (by kernel_rfl) (fun _ _ _ h => h) (Or.inl ⟨by rfl, ?hy75⟩) (by assumption) ?rest75
        case hy75 => (intro w hSw; (try dsimp only at hSw); go_simp; try with_reducible rfl)
        simp only [Act.put, List.setIfInBounds_toArray, List.set_cons_zero, List.set_cons_succ]
        refine wpAnyH_take (i := 24) (oi := ⟨some 96, _, _, _, _, _⟩) (v := ?v76) rfl (by kernel_rfl) (by kernel_rfl) (by kernel_rfl) (fun _ _ _ h => h) (Or.inl ⟨by rfl, ?hy76⟩) (by assumption) ?rest76
        case hy76 => (intro w hSw; (try dsimp only at hSw); go_simp; try with_reducible rfl)
        simp only [Act.put, List.setIfInBounds_toArray, List.set_cons_zero, List.set_cons_succ]
        refine wpAnyH_take (i := 25) (oi := ⟨some 97, _, _, _, _, _⟩) (v := ?v77) rfl (by kernel_rfl) (by kernel_rfl) (by kernel_rfl) (fun _ _ _ h => h) (Or.inl ⟨by rfl, ?hy77⟩) (by assumption) ?rest77
        case hy77 => (intro w hSw; (try dsimp only at hSw); go_simp; try with_reducible rfl)
        simp only [Act.put, List.setIfInBounds_toArray, List.set_cons_zero, List.set_cons_succ]
        refine wpAnyH_take (i := 26) (oi := ⟨some 98, _, _, _, _, _⟩) (v := ?v78) rfl (by kernel_rfl) (by kernel_rfl) (by kernel_rfl) (fun _ _ _ h => h) (Or.inl ⟨by rfl, ?hy78⟩) (by assumption) ?rest78
        case hy78 => (intro w hSw; (try dsimp only at hSw); go_simp; try with_reducible rfl)
        simp only [Act.put, List.setIfInBounds_toArray, List.set_cons_zero, List.set_cons_succ]
        refine wpAnyH_take (i := 28) (oi := ⟨some 100, _, _, _, _, _⟩) (v := ?v79) rfl (by kernel_rfl) (by kernel_rfl) (by kernel_rfl) (fun _ _ _ h => h) (Or.inl ⟨by rfl, ?hy79⟩) (by assumption) ?rest79
        case hy79 => (intro w hSw; (try dsimp only at hSw); go_simp; try with_reducible rfl)
        simp only [Act.put, List.setIfInBounds_toArray, List.set_cons_zero, List.set_cons_succ]
        refine wpAnyH_take (i := 29) (oi := ⟨some 101, _, _, _, _, _⟩) (v := ?v80) rfl (by kernel_rfl) (by kernel_rfl) (by kernel_rfl) (fun _ _ _ h => h) (Or.inl ⟨by rfl, ?hy80⟩) (by assumption) ?rest80
        case hy80 => (intro w hSw; (try dsimp only at hSw); go_simp; try with_reducible rfl)
        simp only [Act.put, List.setIfInBounds_toArray, List.set_cons_zero, List.set_cons_succ]
        refine wpAnyH_take (i := 30) (oi := ⟨some 102, _, _, _, _, _⟩) (v := ?v81) rfl (by kernel_rfl) (by kernel_rfl) (by kernel_rfl) (fun _ _ _ h => h) (Or.inl ⟨by rfl, ?hy81⟩) (by assumption) ?rest81
        case hy81 => (intro w hSw; (try dsimp only at hSw); go_simp; try with_reducible rfl)
        simp only [Act.put, List.setIfInBounds_toArray, List.set_cons_zero, List.set_cons_succ]
        refine wpAnyH_take (i := 31) (oi := ⟨some 103, _, _, _, _, _⟩) (v := ?v82) rfl (by kernel_rfl) (by kernel_rfl) (by kernel_rfl) (fun _ _ _ h => h) (Or.inl ⟨by rfl, ?hy82⟩) (by assumption) ?rest82
        case hy82 => (intro w hSw; (try dsimp only at hSw); go_simp; try with_reducible rfl)
        simp only [Act.put, List.setIfInBounds_toArray, List.set_cons_zero, List.set_cons_succ]
        refine wpAnyH_ready (rs := [27]) (by kernel_rfl) (by simp) ?_
        refine AllReadyH.cons (o := ⟨some 99, _, _, _, _, _⟩) rfl (fun K hK => ?_) AllReadyH.nil
        go_simp
        go_wp2_with (go_at_call 17; refine (P3.out _ H9.out.q).mono ?_; rintro e w10 ⟨rfl, _, f⟩; have H10 := hid (H9.out.kept f); have X10 := hid (X9.out.kept f); have p100 := X10.out.c0; have p101 := X10.out.c1; have p102 := X10.out.c2; have r100 := H10.out.r.c0; have r101 := H10.out.r.c1; have r102 := H10.out.r.c2; have r103 := H10.out.r.c3; have r104 := H10.out.r.c4; have r105 := H10.out.r.c5; clear f)
        refine hK.out _ _ ?_ (fun hHeld => ?_)
        · go_keep
        clear hK K
        refine wpAnyH_ready (rs := [32]) (by kernel_rfl) (by simp) ?_
        refine AllReadyH.cons (o := ⟨some 104, _, _, _, _, _⟩) rfl (fun K hK => ?_) AllReadyH.nil
        go_simp
        go_wp2_with (go_at_call 14; refine (S3.out _).mono ?_; rintro e w11 ⟨rfl, f⟩; have H11 := hid (H10.out.kept f); have X11 := hid (X10.out.kept f); have p110 := X11.out.c0; have p111 := X11.out.c1; have p112 := X11.out.c2; have r110 := H11.out.r.c0; have r111 := H11.out.r.c1; have r112 := H11.out.r.c2; have r113 := H11.out.r.c3; have r114 := H11.out.r.c4; have r115 := H11.out.r.c5; clear f)
        refine hK.out _ _ ?_ (fun hHeld => ?_)
        · go_keep
        clear hK K
        refine wpAnyH_take (i := 33) (oi := ⟨some 105, _, _, _, _, _⟩) (v := ?v83) rfl (by kernel_rfl) (by kernel_rfl) (by kernel_rfl) (fun _ _ _ h => h) (Or.inl ⟨by rfl, ?hy83⟩) (by assumption) ?rest83
        case hy83 => (intro w hSw; (try dsimp only at hSw); go_simp; try with_reducible rfl)
        simp only [Act.put, List.setIfInBounds_toArray, List.set_cons_zero, List.set_cons_succ]
        refine wpAnyH_take (i := 34) (oi := ⟨some 106, _, _, _, _, _⟩) (v := ?v84) rfl (by kernel_rfl) (by kernel_rfl) (by kernel_rfl) (fun _ _ _ h => h) (Or.inl ⟨by rfl, ?hy84⟩) (by assumption) ?rest84
        case hy84 => (intro w hSw; (try dsimp only at hSw); go_simp; try with_reducible rfl)
        simp only [Act.put, List.setIfInBounds_toArray, List.set_cons_zero, List.set_cons_succ]
        refine wpAnyH_done (by kernel_rfl) ?_ _
        go_wp2
        go_roundw
        case rel => exact ⟨j + 1, B, s', by omega, by go_num, rfl, H11⟩
        case measure => simp [intOf]; omega
      · have HC2 := hid (HC.out _ _ _ _ HB.out)
        have hxs : Hid (R < wr.heap.size) := RLT.out
        have hxb : Hid (¬ wr.heap.size = B) := fun e => HNX.out (.inl e)
        clear HB HNX HC
        by_cases i1 : kind < 1
        · clear hin
          go_wp2_with fail
          clear hc1 hc2 hc3 hbb
          refine HC2.out.mono ?_
          rintro e w3 ⟨C, rfl, l2, hC⟩
          have HC3 := hid hC
          have l2' : wr.heap.size + 1 ≤ C := by simpa using l2
          clear hC HC2 l2
          go_wp2_with fail
          refine HC3.out.mono ?_
          rintro e w4 ⟨z, rfl, h4, f4⟩
          have HB := hid h4
          have HX4 := hid (HX.out.carry f4 hxb.out)
          have HNX : Hid (¬ BR C R wr.heap.size) := fun e => by have := hxs.out; rcases e with e | e <;> omega
          clear h4 f4 HC3 HX hxb hxs l2'
          have HX := HX4
          clear HX4
          have p0 := HX.out.c0
          have p1 := HX.out.c1
          have p2 := HX.out.c2
          have HD := hid (done_same HB.out.drew kind a c)
          have HOK := hid (stepS_ok HB.out.q.q.ok kind a c)
          generalize stepS s kind a c = s' at *
          have P1 := hid fun w0 (h : Qn w w0 C s') => n_lim h
          have P2 := hid fun w0 (h : Qn w w0 C s') => n_cha h
          have P3 := hid fun w0 (h : Qn w w0 C s') => n_rsv h
          have S1 := hid fun w => same_yes HOK.out.lim w
          have S2 := hid fun w => same_yes HOK.out.char w
          have S3 := hid fun w => same_yes HOK.out.rsv w
          generalize fb s'.cb = v1 at *
          generalize fb s'.cp = v2 at *
          generalize fb s'.rb = v3 at *
          generalize fb s'.rp = v4 at *
          generalize fb s'.lb = v5 at *
          generalize fb s'.lp = v6 at *
          clear HB
          go_wp2_with fail
          refine wp_region_held_drew (S := fun w' => w'.cell? ⟨wr.heap.size, 0, none⟩ = some (.int .i64 kind) ∧ w'.cell? ⟨wr.heap.size, 1, none⟩ = some (.int .i64 a) ∧ w'.cell? ⟨wr.heap.size, 2, none⟩ = some (.int .i64 c)) (by kernel_rfl) ?_ (fun hHeld => ?_)
          · go_keep
          refine wpAnyH_take (i := 0) (oi := ⟨some 72, _, _, _, _, _⟩) (v := ?v1) rfl (by kernel_rfl) (by kernel_rfl) (by kernel_rfl) (fun _ _ _ h => h) (Or.inl ⟨by rfl, ?hy1⟩) (by assumption) ?rest1
          case hy1 => (intro w hSw; (try dsimp only at hSw); go_simp; try with_reducible rfl)
          simp only [Act.put, List.setIfInBounds_toArray, List.set_cons_zero, List.set_cons_succ]
          refine wpAnyH_take (i := 1) (oi := ⟨some 73, _, _, _, _, _⟩) (v := ?v2) rfl (by kernel_rfl) (by kernel_rfl) (by kernel_rfl) (fun _ _ _ h => h) (Or.inl ⟨by rfl, ?hy2⟩) (by assumption) ?rest2
          case hy2 => (intro w hSw; (try dsimp only at hSw); go_simp; try with_reducible rfl)
          simp only [Act.put, List.setIfInBounds_toArray, List.set_cons_zero, List.set_cons_succ]
          refine wpAnyH_take (i := 2) (oi := ⟨some 74, _, _, _, _, _⟩) (v := ?v3) rfl (by kernel_rfl) (by kernel_rfl) (by kernel_rfl) (fun _ _ _ h => h) (Or.inl ⟨by rfl, ?hy3⟩) (by assumption) ?rest3
          case hy3 => (intro w hSw; (try dsimp only at hSw); go_simp; try with_reducible rfl)
          simp only [Act.put, List.setIfInBounds_toArray, List.set_cons_zero, List.set_cons_succ]
          refine wpAnyH_ready (rs := [3]) (by kernel_rfl) (by simp) ?_
          refine AllReadyH.cons (o := ⟨some 75, _, _, _, _, _⟩) rfl (fun K hK => ?_) AllReadyH.nil
          go_simp
          go_wp2_with (go_at_call 13; refine HD.out.mono ?_; rintro e w5 ⟨rfl, h5, f5⟩; have H5 := hid h5; have X5 := hid (HX.out.carry ((Fr.refl (BR C R) _).drew.trans f5) HNX.out); have p50 := X5.out.c0; have p51 := X5.out.c1; have p52 := X5.out.c2; clear h5 f5)
          refine hK.out _ _ ?_ (fun hHeld => ?_)
          · go_keep
          clear hK K
          have r50 := H5.out.r.c0
          have r51 := H5.out.r.c1
          have r52 := H5.out.r.c2
          have r53 := H5.out.r.c3
          have r54 := H5.out.r.c4
          have r55 := H5.out.r.c5
          refine held_switch (S2 := fun w' => (w'.cell? ⟨wr.heap.size, 0, none⟩ = some (.int .i64 kind) ∧ w'.cell? ⟨wr.heap.size, 1, none⟩ = some (.int .i64 a) ∧ w'.cell? ⟨wr.heap.size, 2, none⟩ = some (.int .i64 c)) ∧ (w'.cell? ⟨R, 0, none⟩ = some (.int .i64 s'.lb) ∧ w'.cell? ⟨R, 1, none⟩ = some (.int .i64 s'.lp) ∧ w'.cell? ⟨R, 2, none⟩ = some (.int .i64 s'.cb) ∧ w'.cell? ⟨R, 3, none⟩ = some (.int .i64 s'.cp) ∧ w'.cell? ⟨R, 4, none⟩ = some (.int .i64 s'.rb) ∧ w'.cell? ⟨R, 5, none⟩ = some (.int .i64 s'.rp))) (fun _ h => h.1) _ _ _ _ ?_
          have hHeld2 : (w5.cell? ⟨wr.heap.size, 0, none⟩ = some (.int .i64 kind) ∧ w5.cell? ⟨wr.heap.size, 1, none⟩ = some (.int .i64 a) ∧ w5.cell? ⟨wr.heap.size, 2, none⟩ = some (.int .i64 c)) ∧ (w5.cell? ⟨R, 0, none⟩ = some (.int .i64 s'.lb) ∧ w5.cell? ⟨R, 1, none⟩ = some (.int .i64 s'.lp) ∧ w5.cell? ⟨R, 2, none⟩ = some (.int .i64 s'.cb) ∧ w5.cell? ⟨R, 3, none⟩ = some (.int .i64 s'.cp) ∧ w5.cell? ⟨R, 4, none⟩ = some (.int .i64 s'.rb) ∧ w5.cell? ⟨R, 5, none⟩ = some (.int .i64 s'.rp)) := ⟨⟨p50, p51, p52⟩, r50, r51, r52, r53, r54, r55⟩
          clear hHeld
          refine wpAnyH_take (i := 4) (oi := ⟨some 76, _, _, _, _, _⟩) (v := ?v4) rfl (by kernel_rfl) (by kernel_rfl) (by kernel_rfl) (fun _ _ _ h => h) (Or.inl ⟨by rfl, ?hy4⟩) (by assumption) ?rest4
          case hy4 => (intro w hSw; (try dsimp only at hSw); go_simp; try with_reducible rfl)
          simp only [Act.put, List.setIfInBounds_toArray, List.set_cons_zero, List.set_cons_succ]
          refine wpAnyH_take (i := 5) (oi := ⟨some 77, _, _, _, _, _⟩) (v := ?v5) rfl (by kernel_rfl) (by kernel_rfl) (by kernel_rfl) (fun _ _ _ h => h) (Or.inl ⟨by rfl, ?hy5⟩) (by assumption) ?rest5
          case hy5 => (intro w hSw; (try dsimp only at hSw); go_simp; try with_reducible rfl)
          simp only [Act.put, List.setIfInBounds_toArray, List.set_cons_zero, List.set_cons_succ]
          refine wpAnyH_take (i := 6) (oi := ⟨some 78, _, _, _, _, _⟩) (v := ?v6) rfl (by kernel_rfl) (by kernel_rfl) (by kernel_rfl) (fun _ _ _ h => h) (Or.inl ⟨by rfl, ?hy6⟩) (by assumption) ?rest6
          case hy6 => (intro w hSw; (try dsimp only at hSw); go_simp; try with_reducible rfl)
          simp only [Act.put, List.setIfInBounds_toArray, List.set_cons_zero, List.set_cons_succ]
          refine wpAnyH_take (i := 8) (oi := ⟨some 80, _, _, _, _, _⟩) (v := ?v7) rfl (by kernel_rfl) (by kernel_rfl) (by kernel_rfl) (fun _ _ _ h => h) (Or.inl ⟨by rfl, ?hy7⟩) (by assumption) ?rest7
          case hy7 => (intro w hSw; (try dsimp only at hSw); go_simp; try with_reducible rfl)
          simp only [Act.put, List.setIfInBounds_toArray, List.set_cons_zero, List.set_cons_succ]
          refine wpAnyH_take (i := 9) (oi := ⟨some 81, _, _, _, _, _⟩) (v := ?v8) rfl (by kernel_rfl) (by kernel_rfl) (by kernel_rfl) (fun _ _ _ h => h) (Or.inl ⟨by rfl, ?hy8⟩) (by assumption) ?rest8
          case hy8 => (intro w hSw; (try dsimp only at hSw); go_simp; try with_reducible rfl)
          simp only [Act.put, List.setIfInBounds_toArray, List.set_cons_zero, List.set_cons_succ]
          refine wpAnyH_take (i := 10) (oi := ⟨some 82, _, _, _, _, _⟩) (v := ?v9) rfl (by kernel_rfl) (by kernel_rfl) (by kernel_rfl) (fun _ _ _ h => h) (Or.inl ⟨by rfl, ?hy9⟩) (by assumption) ?rest9
          case hy9 => (intro w hSw; (try dsimp only at hSw); go_simp; try with_reducible rfl)
          simp only [Act.put, List.setIfInBounds_toArray, List.set_cons_zero, List.set_cons_succ]
          refine wpAnyH_take (i := 11) (oi := ⟨some 83, _, _, _, _, _⟩) (v := ?v10) rfl (by kernel_rfl) (by kernel_rfl) (by kernel_rfl) (fun _ _ _ h => h) (Or.inl ⟨by rfl, ?hy10⟩) (by assumption) ?rest10
          case hy10 => (intro w hSw; (try dsimp only at hSw); go_simp; try with_reducible rfl)
          simp only [Act.put, List.setIfInBounds_toArray, List.set_cons_zero, List.set_cons_succ]
          refine wpAnyH_ready (rs := [7]) (by kernel_rfl) (by simp) ?_
          refine AllReadyH.cons (o := ⟨some 79, _, _, _, _, _⟩) rfl (fun K hK => ?_) AllReadyH.nil
          go_simp
          go_wp2_with (go_at_call 15; refine (P1.out _ H5.out.q).mono ?_; rintro e w6 ⟨rfl, _, f⟩; have H6 := hid (H5.out.kept f); have X6 := hid (X5.out.kept f); have p60 := X6.out.c0; have p61 := X6.out.c1; have p62 := X6.out.c2; have r60 := H6.out.r.c0; have r61 := H6.out.r.c1; have r62 := H6.out.r.c2; have r63 := H6.out.r.c3; have r64 := H6.out.r.c4; have r65 := H6.out.r.c5; clear f)
          refine hK.out _ _ ?_ (fun hHeld => ?_)
          · go_keep
          clear hK K
          refine wpAnyH_ready (rs := [12]) (by kernel_rfl) (by simp) ?_
          refine AllReadyH.cons (o := ⟨some 84, _, _, _, _, _⟩) rfl (fun K hK => ?_) AllReadyH.nil
          go_simp
          go_wp2_with (go_at_call 14; refine (S1.out _).mono ?_; rintro e w7 ⟨rfl, f⟩; have H7 := hid (H6.out.kept f); have X7 := hid (X6.out.kept f); have p70 := X7.out.c0; have p71 := X7.out.c1; have p72 := X7.out.c2; have r70 := H7.out.r.c0; have r71 := H7.out.r.c1; have r72 := H7.out.r.c2; have r73 := H7.out.r.c3; have r74 := H7.out.r.c4; have r75 := H7.out.r.c5; clear f)
          refine hK.out _ _ ?_ (fun hHeld => ?_)
          · go_keep
          clear hK K
          refine wpAnyH_take (i := 13) (oi := ⟨some 85, _, _, _, _, _⟩) (v := ?v11) rfl (by kernel_rfl) (by kernel_rfl) (by kernel_rfl) (fun _ _ _ h => h) (Or.inl ⟨by rfl, ?hy11⟩) (by assumption) ?rest11
          case hy11 => (intro w hSw; (try dsimp only at hSw); go_simp; try with_reducible rfl)
          simp only [Act.put, List.setIfInBounds_toArray, List.set_cons_zero, List.set_cons_succ]
          refine wpAnyH_take (i := 14) (oi := ⟨some 86, _, _, _, _, _⟩) (v := ?v12) rfl (by kernel_rfl) (by kernel_rfl) (by kernel_rfl) (fun _ _ _ h => h) (Or.inl ⟨by rfl, ?hy12⟩) (by assumption) ?rest12
          case hy12 => (intro w hSw; (try dsimp only at hSw); go_simp; try with_reducible rfl)
          simp only [Act.put, List.setIfInBounds_toArray, List.set_cons_zero, List.set_cons_succ]
          refine wpAnyH_take (i := 15) (oi := ⟨some 87, _, _, _, _, _⟩) (v := ?v13) rfl (by kernel_rfl) (by kernel_rfl) (by kernel_rfl) (fun _ _ _ h => h) (Or.inl ⟨by rfl, ?hy13⟩) (by assumption) ?rest13
          case hy13 => (intro w hSw; (try dsimp only at hSw); go_simp; try with_reducible rfl)
          simp only [Act.put, List.setIfInBounds_toArray, List.set_cons_zero, List.set_cons_succ]
          refine wpAnyH_take (i := 16) (oi := ⟨some 88, _, _, _, _, _⟩) (v := ?v14) rfl (by kernel_rfl) (by kernel_rfl) (by kernel_rfl) (fun _ _ _ h => h) (Or.inl ⟨by rfl, ?hy14⟩) (by assumption) ?rest14
          case hy14 => (intro w hSw; (try dsimp only at hSw); go_simp; try with_reducible rfl)
          simp only [Act.put, List.setIfInBounds_toArray, List.set_cons_zero, List.set_cons_succ]
          refine wpAnyH_take (i := 18) (oi := ⟨some 90, _, _, _, _, _⟩) (v := ?v15) rfl (by kernel_rfl) (by kernel_rfl) (by kernel_rfl) (fun _ _ _ h => h) (Or.inl ⟨by rfl, ?hy15⟩) (by assumption) ?rest15
          case hy15 => (intro w hSw; (try dsimp only at hSw); go_simp; try with_reducible rfl)
          simp only [Act.put, List.setIfInBounds_toArray, List.set_cons_zero, List.set_cons_succ]
          refine wpAnyH_take (i := 19) (oi := ⟨some 91, _, _, _, _, _⟩) (v := ?v16) rfl (by kernel_rfl) (by kernel_rfl) (by kernel_rfl) (fun _ _ _ h => h) (Or.inl ⟨by rfl, ?hy16⟩) (by assumption) ?rest16
          case hy16 => (intro w hSw; (try dsimp only at hSw); go_simp; try with_reducible rfl)
          simp only [Act.put, List.setIfInBounds_toArray, List.set_cons_zero, List.set_cons_succ]
          refine wpAnyH_take (i := 20) (oi := ⟨some 92, _, _, _, _, _⟩) (v := ?v17) rfl (by kernel_rfl) (by kernel_rfl) (by kernel_rfl) (fun _ _ _ h => h) (Or.inl ⟨by rfl, ?hy17⟩) (by assumption) ?rest17
          case hy17 => (intro w hSw; (try dsimp only at hSw); go_simp; try with_reducible rfl)
          simp only [Act.put, List.setIfInBounds_toArray, List.set_cons_zero, List.set_cons_succ]
          refine wpAnyH_take (i := 21) (oi := ⟨some 93, _, _, _, _, _⟩) (v := ?v18) rfl (by kernel_rfl) (by kernel_rfl) (by kernel_rfl) (fun _ _ _ h => h) (Or.inl ⟨by rfl, ?hy18⟩) (by assumption) ?rest18
          case hy18 => (intro w hSw; (try dsimp only at hSw); go_simp; try with_reducible rfl)
          simp only [Act.put, List.setIfInBounds_toArray, List.set_cons_zero, List.set_cons_succ]
          refine wpAnyH_ready (rs := [17]) (by kernel_rfl) (by simp) ?_
          refine AllReadyH.cons (o := ⟨some 89, _, _, _, _, _⟩) rfl (fun K hK => ?_) AllReadyH.nil
          go_simp
          go_wp2_with (go_at_call 16; refine (P2.out _ H7.out.q).mono ?_; rintro e w8 ⟨rfl, _, f⟩; have H8 := hid (H7.out.kept f); have X8 := hid (X7.out.kept f); have p80 := X8.out.c0; have p81 := X8.out.c1; have p82 := X8.out.c2; have r80 := H8.out.r.c0; have r81 := H8.out.r.c1; have r82 := H8.out.r.c2; have r83 := H8.out.r.c3; have r84 := H8.out.r.c4; have r85 := H8.out.r.c5; clear f)
          refine hK.out _ _ ?_ (fun hHeld => ?_)
          · go_keep
          clear hK K
          refine wpAnyH_ready (rs := [22]) (by kernel_rfl) (by simp) ?_
          refine AllReadyH.cons (o := ⟨some 94, _, _, _, _, _⟩) rfl (fun K hK => ?_) AllReadyH.nil
          go_simp
          go_wp2_with (go_at_call 14; refine (S2.out _).mono ?_; rintro e w9 ⟨rfl, f⟩; have H9 := hid (H8.out.kept f); have X9 := hid (X8.out.kept f); have p90 := X9.out.c0; have p91 := X9.out.c1; have p92 := X9.out.c2; have r90 := H9.out.r.c0; have r91 := H9.out.r.c1; have r92 := H9.out.r.c2; have r93 := H9.out.r.c3; have r94 := H9.out.r.c4; have r95 := H9.out.r.c5; clear f)
          refine hK.out _ _ ?_ (fun hHeld => ?_)
          · go_keep
          clear hK K
          refine wpAnyH_take (i := 23) (oi := ⟨some 95, _, _, _, _, _⟩) (v := ?v19) rfl (by kernel_rfl) (by kernel_rfl) (by kernel_rfl) (fun _ _ _ h => h) (Or.inl ⟨by rfl, ?hy19⟩) (by assumption) ?rest19
          case hy19 => (intro w hSw; (try dsimp only at hSw); go_simp; try with_reducible rfl)
          simp only [Act.put, List.setIfInBounds_toArray, List.set_cons_zero, List.set_cons_succ]
          refine wpAnyH_take (i := 24) (oi := ⟨some 96, _, _, _, _, _⟩) (v := ?v20) rfl (by kernel_rfl) (by kernel_rfl) (by kernel_rfl) (fun _ _ _ h => h) (Or.inl ⟨by rfl, ?hy20⟩) (by assumption) ?rest20
          case hy20 => (intro w hSw; (try dsimp only at hSw); go_simp; try with_reducible rfl)
          simp only [Act.put, List.setIfInBounds_toArray, List.set_cons_zero, List.set_cons_succ]
          refine wpAnyH_take (i := 25) (oi := ⟨some 97, _, _, _, _, _⟩) (v := ?v21) rfl (by kernel_rfl) (by kernel_rfl) (by kernel_rfl) (fun _ _ _ h => h) (Or.inl ⟨by rfl, ?hy21⟩) (by assumption) ?rest21
          case hy21 => (intro w hSw; (try dsimp only at hSw); go_simp; try with_reducible rfl)
          simp only [Act.put, List.setIfInBounds_toArray, List.set_cons_zero, List.set_cons_succ]
          refine wpAnyH_take (i := 26) (oi := ⟨some 98, _, _, _, _, _⟩) (v := ?v22) rfl (by kernel_rfl) (by kernel_rfl) (by kernel_rfl) (fun _ _ _ h => h) (Or.inl ⟨by rfl, ?hy22⟩) (by assumption) ?rest22
          case hy22 => (intro w hSw; (try dsimp only at hSw); go_simp; try with_reducible rfl)
          simp only [Act.put, List.setIfInBounds_toArray, List.set_cons_zero, List.set_cons_succ]
          refine wpAnyH_take (i := 28) (oi := ⟨some 100, _, _, _, _, _⟩) (v := ?v23) rfl (by kernel_rfl) (by kernel_rfl) (by kernel_rfl) (fun _ _ _ h => h) (Or.inl ⟨by rfl, ?hy23⟩) (by assumption) ?rest23
          case hy23 => (intro w hSw; (try dsimp only at hSw); go_simp; try with_reducible rfl)
          simp only [Act.put, List.setIfInBounds_toArray, List.set_cons_zero, List.set_cons_succ]
          refine wpAnyH_take (i := 29) (oi := ⟨some 101, _, _, _, _, _⟩) (v := ?v24) rfl (by kernel_rfl) (by kernel_rfl) (by kernel_rfl) (fun _ _ _ h => h) (Or.inl ⟨by rfl, ?hy24⟩) (by assumption) ?rest24
          case hy24 => (intro w hSw; (try dsimp only at hSw); go_simp; try with_reducible rfl)
          simp only [Act.put, List.setIfInBounds_toArray, List.set_cons_zero, List.set_cons_succ]
          refine wpAnyH_take (i := 30) (oi := ⟨some 102, _, _, _, _, _⟩) (v := ?v25) rfl (by kernel_rfl) (by kernel_rfl) (by kernel_rfl) (fun _ _ _ h => h) (Or.inl ⟨by rfl, ?hy25⟩) (by assumption) ?rest25
          case hy25 => (intro w hSw; (try dsimp only at hSw); go_simp; try with_reducible rfl)
          simp only [Act.put, List.setIfInBounds_toArray, List.set_cons_zero, List.set_cons_succ]
          refine wpAnyH_take (i := 31) (oi := ⟨some 103, _, _, _, _, _⟩) (v := ?v26) rfl (by kernel_rfl) (by kernel_rfl) (by kernel_rfl) (fun _ _ _ h => h) (Or.inl ⟨by rfl, ?hy26⟩) (by assumption) ?rest26
          case hy26 => (intro w hSw; (try dsimp only at hSw); go_simp; try with_reducible rfl)
          simp only [Act.put, List.setIfInBounds_toArray, List.set_cons_zero, List.set_cons_succ]
          refine wpAnyH_ready (rs := [27]) (by kernel_rfl) (by simp) ?_
          refine AllReadyH.cons (o := ⟨some 99, _, _, _, _, _⟩) rfl (fun K hK => ?_) AllReadyH.nil
          go_simp
          go_wp2_with (go_at_call 17; refine (P3.out _ H9.out.q).mono ?_; rintro e w10 ⟨rfl, _, f⟩; have H10 := hid (H9.out.kept f); have X10 := hid (X9.out.kept f); have p100 := X10.out.c0; have p101 := X10.out.c1; have p102 := X10.out.c2; have r100 := H10.out.r.c0; have r101 := H10.out.r.c1; have r102 := H10.out.r.c2; have r103 := H10.out.r.c3; have r104 := H10.out.r.c4; have r105 := H10.out.r.c5; clear f)
          refine hK.out _ _ ?_ (fun hHeld => ?_)
          · go_keep
          clear hK K
          refine wpAnyH_ready (rs := [32]) (by kernel_rfl) (by simp) ?_
          refine AllReadyH.cons (o := ⟨some 104, _, _, _, _, _⟩) rfl (fun K hK => ?_) AllReadyH.nil
          go_simp
          go_wp2_with (go_at_call 14; refine (S3.out _).mono ?_; rintro e w11 ⟨rfl, f⟩; have H11 := hid (H10.out.kept f); have X11 := hid (X10.out.kept f); have p110 := X11.out.c0; have p111 := X11.out.c1; have p112 := X11.out.c2; have r110 := H11.out.r.c0; have r111 := H11.out.r.c1; have r112 := H11.out.r.c2; have r113 := H11.out.r.c3; have r114 := H11.out.r.c4; have r115 := H11.out.r.c5; clear f)
          refine hK.out _ _ ?_ (fun hHeld => ?_)
          · go_keep
          clear hK K
          refine wpAnyH_take (i := 33) (oi := ⟨some 105, _, _, _, _, _⟩) (v := ?v27) rfl (by kernel_rfl) (by kernel_rfl) (by kernel_rfl) (fun _ _ _ h => h) (Or.inl ⟨by rfl, ?hy27⟩) (by assumption) ?rest27
          case hy27 => (intro w hSw; (try dsimp only at hSw); go_simp; try with_reducible rfl)
          simp only [Act.put, List.setIfInBounds_toArray, List.set_cons_zero, List.set_cons_succ]
          refine wpAnyH_take (i := 34) (oi := ⟨some 106, _, _, _, _, _⟩) (v := ?v28) rfl (by kernel_rfl) (by kernel_rfl) (by kernel_rfl) (fun _ _ _ h => h) (Or.inl ⟨by rfl, ?hy28⟩) (by assumption) ?rest28
          case hy28 => (intro w hSw; (try dsimp only at hSw); go_simp; try with_reducible rfl)
          simp only [Act.put, List.setIfInBounds_toArray, List.set_cons_zero, List.set_cons_succ]
          refine wpAnyH_done (by kernel_rfl) ?_ _
          go_wp2
          go_roundw
          case rel => exact ⟨j + 1, C, s', by omega, by go_num, rfl, H11⟩
          case measure => simp [intOf]; omega
        · have i2 : 5 < kind := by omega
          have i1 : 1 ≤ kind := by omega
          clear hin
          go_wp2_with fail
          clear hc1 hc2 hc3 hbb
          refine HC2.out.mono ?_
          rintro e w3 ⟨C, rfl, l2, hC⟩
          have HC3 := hid hC
          have l2' : wr.heap.size + 1 ≤ C := by simpa using l2
          clear hC HC2 l2
          go_wp2_with fail
          refine HC3.out.mono ?_
          rintro e w4 ⟨z, rfl, h4, f4⟩
          have HB := hid h4
          have HX4 := hid (HX.out.carry f4 hxb.out)
          have HNX : Hid (¬ BR C R wr.heap.size) := fun e => by have := hxs.out; rcases e with e | e <;> omega
          clear h4 f4 HC3 HX hxb hxs l2'
          have HX := HX4
          clear HX4
          have p0 := HX.out.c0
          have p1 := HX.out.c1
          have p2 := HX.out.c2
          have HD := hid (done_same HB.out.drew kind a c)
          have HOK := hid (stepS_ok HB.out.q.q.ok kind a c)
          generalize stepS s kind a c = s' at *
          have P1 := hid fun w0 (h : Qn w w0 C s') => n_lim h
          have P2 := hid fun w0 (h : Qn w w0 C s') => n_cha h
          have P3 := hid fun w0 (h : Qn w w0 C s') => n_rsv h
          have S1 := hid fun w => same_yes HOK.out.lim w
          have S2 := hid fun w => same_yes HOK.out.char w
          have S3 := hid fun w => same_yes HOK.out.rsv w
          generalize fb s'.cb = v1 at *
          generalize fb s'.cp = v2 at *
          generalize fb s'.rb = v3 at *
          generalize fb s'.rp = v4 at *
          generalize fb s'.lb = v5 at *
          generalize fb s'.lp = v6 at *
          clear HB
          go_wp2_with fail
          refine wp_region_held_drew (S := fun w' => w'.cell? ⟨wr.heap.size, 0, none⟩ = some (.int .i64 kind) ∧ w'.cell? ⟨wr.heap.size, 1, none⟩ = some (.int .i64 a) ∧ w'.cell? ⟨wr.heap.size, 2, none⟩ = some (.int .i64 c)) (by kernel_rfl) ?_ (fun hHeld => ?_)
          · go_keep
          refine wpAnyH_take (i := 0) (oi := ⟨some 72, _, _, _, _, _⟩) (v := ?v29) rfl (by kernel_rfl) (by kernel_rfl) (by kernel_rfl) (fun _ _ _ h => h) (Or.inl ⟨by rfl, ?hy29⟩) (by assumption) ?rest29
          case hy29 => (intro w hSw; (try dsimp only at hSw); go_simp; try with_reducible rfl)
          simp only [Act.put, List.setIfInBounds_toArray, List.set_cons_zero, List.set_cons_succ]
          refine wpAnyH_take (i := 1) (oi := ⟨some 73, _, _, _, _, _⟩) (v := ?v30) rfl (by kernel_rfl) (by kernel_rfl) (by kernel_rfl) (fun _ _ _ h => h) (Or.inl ⟨by rfl, ?hy30⟩) (by assumption) ?rest30
          case hy30 => (intro w hSw; (try dsimp only at hSw); go_simp; try with_reducible rfl)
          simp only [Act.put, List.setIfInBounds_toArray, List.set_cons_zero, List.set_cons_succ]
          refine wpAnyH_take (i := 2) (oi := ⟨some 74, _, _, _, _, _⟩) (v := ?v31) rfl (by kernel_rfl) (by kernel_rfl) (by kernel_rfl) (fun _ _ _ h => h) (Or.inl ⟨by rfl, ?hy31⟩) (by assumption) ?rest31
          case hy31 => (intro w hSw; (try dsimp only at hSw); go_simp; try with_reducible rfl)
          simp only [Act.put, List.setIfInBounds_toArray, List.set_cons_zero, List.set_cons_succ]
          refine wpAnyH_ready (rs := [3]) (by kernel_rfl) (by simp) ?_
          refine AllReadyH.cons (o := ⟨some 75, _, _, _, _, _⟩) rfl (fun K hK => ?_) AllReadyH.nil
          go_simp
          go_wp2_with (go_at_call 13; refine HD.out.mono ?_; rintro e w5 ⟨rfl, h5, f5⟩; have H5 := hid h5; have X5 := hid (HX.out.carry ((Fr.refl (BR C R) _).drew.trans f5) HNX.out); have p50 := X5.out.c0; have p51 := X5.out.c1; have p52 := X5.out.c2; clear h5 f5)
          refine hK.out _ _ ?_ (fun hHeld => ?_)
          · go_keep
          clear hK K
          have r50 := H5.out.r.c0
          have r51 := H5.out.r.c1
          have r52 := H5.out.r.c2
          have r53 := H5.out.r.c3
          have r54 := H5.out.r.c4
          have r55 := H5.out.r.c5
          refine held_switch (S2 := fun w' => (w'.cell? ⟨wr.heap.size, 0, none⟩ = some (.int .i64 kind) ∧ w'.cell? ⟨wr.heap.size, 1, none⟩ = some (.int .i64 a) ∧ w'.cell? ⟨wr.heap.size, 2, none⟩ = some (.int .i64 c)) ∧ (w'.cell? ⟨R, 0, none⟩ = some (.int .i64 s'.lb) ∧ w'.cell? ⟨R, 1, none⟩ = some (.int .i64 s'.lp) ∧ w'.cell? ⟨R, 2, none⟩ = some (.int .i64 s'.cb) ∧ w'.cell? ⟨R, 3, none⟩ = some (.int .i64 s'.cp) ∧ w'.cell? ⟨R, 4, none⟩ = some (.int .i64 s'.rb) ∧ w'.cell? ⟨R, 5, none⟩ = some (.int .i64 s'.rp))) (fun _ h => h.1) _ _ _ _ ?_
          have hHeld2 : (w5.cell? ⟨wr.heap.size, 0, none⟩ = some (.int .i64 kind) ∧ w5.cell? ⟨wr.heap.size, 1, none⟩ = some (.int .i64 a) ∧ w5.cell? ⟨wr.heap.size, 2, none⟩ = some (.int .i64 c)) ∧ (w5.cell? ⟨R, 0, none⟩ = some (.int .i64 s'.lb) ∧ w5.cell? ⟨R, 1, none⟩ = some (.int .i64 s'.lp) ∧ w5.cell? ⟨R, 2, none⟩ = some (.int .i64 s'.cb) ∧ w5.cell? ⟨R, 3, none⟩ = some (.int .i64 s'.cp) ∧ w5.cell? ⟨R, 4, none⟩ = some (.int .i64 s'.rb) ∧ w5.cell? ⟨R, 5, none⟩ = some (.int .i64 s'.rp)) := ⟨⟨p50, p51, p52⟩, r50, r51, r52, r53, r54, r55⟩
          clear hHeld
          refine wpAnyH_take (i := 4) (oi := ⟨some 76, _, _, _, _, _⟩) (v := ?v32) rfl (by kernel_rfl) (by kernel_rfl) (by kernel_rfl) (fun _ _ _ h => h) (Or.inl ⟨by rfl, ?hy32⟩) (by assumption) ?rest32
          case hy32 => (intro w hSw; (try dsimp only at hSw); go_simp; try with_reducible rfl)
          simp only [Act.put, List.setIfInBounds_toArray, List.set_cons_zero, List.set_cons_succ]
          refine wpAnyH_take (i := 5) (oi := ⟨some 77, _, _, _, _, _⟩) (v := ?v33) rfl (by kernel_rfl) (by kernel_rfl) (by kernel_rfl) (fun _ _ _ h => h) (Or.inl ⟨by rfl, ?hy33⟩) (by assumption) ?rest33
          case hy33 => (intro w hSw; (try dsimp only at hSw); go_simp; try with_reducible rfl)
          simp only [Act.put, List.setIfInBounds_toArray, List.set_cons_zero, List.set_cons_succ]
          refine wpAnyH_take (i := 6) (oi := ⟨some 78, _, _, _, _, _⟩) (v := ?v34) rfl (by kernel_rfl) (by kernel_rfl) (by kernel_rfl) (fun _ _ _ h => h) (Or.inl ⟨by rfl, ?hy34⟩) (by assumption) ?rest34
          case hy34 => (intro w hSw; (try dsimp only at hSw); go_simp; try with_reducible rfl)
          simp only [Act.put, List.setIfInBounds_toArray, List.set_cons_zero, List.set_cons_succ]
          refine wpAnyH_take (i := 8) (oi := ⟨some 80, _, _, _, _, _⟩) (v := ?v35) rfl (by kernel_rfl) (by kernel_rfl) (by kernel_rfl) (fun _ _ _ h => h) (Or.inl ⟨by rfl, ?hy35⟩) (by assumption) ?rest35
          case hy35 => (intro w hSw; (try dsimp only at hSw); go_simp; try with_reducible rfl)
          simp only [Act.put, List.setIfInBounds_toArray, List.set_cons_zero, List.set_cons_succ]
          refine wpAnyH_take (i := 9) (oi := ⟨some 81, _, _, _, _, _⟩) (v := ?v36) rfl (by kernel_rfl) (by kernel_rfl) (by kernel_rfl) (fun _ _ _ h => h) (Or.inl ⟨by rfl, ?hy36⟩) (by assumption) ?rest36
          case hy36 => (intro w hSw; (try dsimp only at hSw); go_simp; try with_reducible rfl)
          simp only [Act.put, List.setIfInBounds_toArray, List.set_cons_zero, List.set_cons_succ]
          refine wpAnyH_take (i := 10) (oi := ⟨some 82, _, _, _, _, _⟩) (v := ?v37) rfl (by kernel_rfl) (by kernel_rfl) (by kernel_rfl) (fun _ _ _ h => h) (Or.inl ⟨by rfl, ?hy37⟩) (by assumption) ?rest37
          case hy37 => (intro w hSw; (try dsimp only at hSw); go_simp; try with_reducible rfl)
          simp only [Act.put, List.setIfInBounds_toArray, List.set_cons_zero, List.set_cons_succ]
          refine wpAnyH_take (i := 11) (oi := ⟨some 83, _, _, _, _, _⟩) (v := ?v38) rfl (by kernel_rfl) (by kernel_rfl) (by kernel_rfl) (fun _ _ _ h => h) (Or.inl ⟨by rfl, ?hy38⟩) (by assumption) ?rest38
          case hy38 => (intro w hSw; (try dsimp only at hSw); go_simp; try with_reducible rfl)
          simp only [Act.put, List.setIfInBounds_toArray, List.set_cons_zero, List.set_cons_succ]
          refine wpAnyH_ready (rs := [7]) (by kernel_rfl) (by simp) ?_
          refine AllReadyH.cons (o := ⟨some 79, _, _, _, _, _⟩) rfl (fun K hK => ?_) AllReadyH.nil
          go_simp
          go_wp2_with (go_at_call 15; refine (P1.out _ H5.out.q).mono ?_; rintro e w6 ⟨rfl, _, f⟩; have H6 := hid (H5.out.kept f); have X6 := hid (X5.out.kept f); have p60 := X6.out.c0; have p61 := X6.out.c1; have p62 := X6.out.c2; have r60 := H6.out.r.c0; have r61 := H6.out.r.c1; have r62 := H6.out.r.c2; have r63 := H6.out.r.c3; have r64 := H6.out.r.c4; have r65 := H6.out.r.c5; clear f)
          refine hK.out _ _ ?_ (fun hHeld => ?_)
          · go_keep
          clear hK K
          refine wpAnyH_ready (rs := [12]) (by kernel_rfl) (by simp) ?_
          refine AllReadyH.cons (o := ⟨some 84, _, _, _, _, _⟩) rfl (fun K hK => ?_) AllReadyH.nil
          go_simp
          go_wp2_with (go_at_call 14; refine (S1.out _).mono ?_; rintro e w7 ⟨rfl, f⟩; have H7 := hid (H6.out.kept f); have X7 := hid (X6.out.kept f); have p70 := X7.out.c0; have p71 := X7.out.c1; have p72 := X7.out.c2; have r70 := H7.out.r.c0; have r71 := H7.out.r.c1; have r72 := H7.out.r.c2; have r73 := H7.out.r.c3; have r74 := H7.out.r.c4; have r75 := H7.out.r.c5; clear f)
          refine hK.out _ _ ?_ (fun hHeld => ?_)
          · go_keep
          clear hK K
          refine wpAnyH_take (i := 13) (oi := ⟨some 85, _, _, _, _, _⟩) (v := ?v39) rfl (by kernel_rfl) (by kernel_rfl) (by kernel_rfl) (fun _ _ _ h => h) (Or.inl ⟨by rfl, ?hy39⟩) (by assumption) ?rest39
          case hy39 => (intro w hSw; (try dsimp only at hSw); go_simp; try with_reducible rfl)
          simp only [Act.put, List.setIfInBounds_toArray, List.set_cons_zero, List.set_cons_succ]
          refine wpAnyH_take (i := 14) (oi := ⟨some 86, _, _, _, _, _⟩) (v := ?v40) rfl (by kernel_rfl) (by kernel_rfl) (by kernel_rfl) (fun _ _ _ h => h) (Or.inl ⟨by rfl, ?hy40⟩) (by assumption) ?rest40
          case hy40 => (intro w hSw; (try dsimp only at hSw); go_simp; try with_reducible rfl)
          simp only [Act.put, List.setIfInBounds_toArray, List.set_cons_zero, List.set_cons_succ]
          refine wpAnyH_take (i := 15) (oi := ⟨some 87, _, _, _, _, _⟩) (v := ?v41) rfl (by kernel_rfl) (by kernel_rfl) (by kernel_rfl) (fun _ _ _ h => h) (Or.inl ⟨by rfl, ?hy41⟩) (by assumption) ?rest41
          case hy41 => (intro w hSw; (try dsimp only at hSw); go_simp; try with_reducible rfl)
          simp only [Act.put, List.setIfInBounds_toArray, List.set_cons_zero, List.set_cons_succ]
          refine wpAnyH_take (i := 16) (oi := ⟨some 88, _, _, _, _, _⟩) (v := ?v42) rfl (by kernel_rfl) (by kernel_rfl) (by kernel_rfl) (fun _ _ _ h => h) (Or.inl ⟨by rfl, ?hy42⟩) (by assumption) ?rest42
          case hy42 => (intro w hSw; (try dsimp only at hSw); go_simp; try with_reducible rfl)
          simp only [Act.put, List.setIfInBounds_toArray, List.set_cons_zero, List.set_cons_succ]
          refine wpAnyH_take (i := 18) (oi := ⟨some 90, _, _, _, _, _⟩) (v := ?v43) rfl (by kernel_rfl) (by kernel_rfl) (by kernel_rfl) (fun _ _ _ h => h) (Or.inl ⟨by rfl, ?hy43⟩) (by assumption) ?rest43
          case hy43 => (intro w hSw; (try dsimp only at hSw); go_simp; try with_reducible rfl)
          simp only [Act.put, List.setIfInBounds_toArray, List.set_cons_zero, List.set_cons_succ]
          refine wpAnyH_take (i := 19) (oi := ⟨some 91, _, _, _, _, _⟩) (v := ?v44) rfl (by kernel_rfl) (by kernel_rfl) (by kernel_rfl) (fun _ _ _ h => h) (Or.inl ⟨by rfl, ?hy44⟩) (by assumption) ?rest44
          case hy44 => (intro w hSw; (try dsimp only at hSw); go_simp; try with_reducible rfl)
          simp only [Act.put, List.setIfInBounds_toArray, List.set_cons_zero, List.set_cons_succ]
          refine wpAnyH_take (i := 20) (oi := ⟨some 92, _, _, _, _, _⟩) (v := ?v45) rfl (by kernel_rfl) (by kernel_rfl) (by kernel_rfl) (fun _ _ _ h => h) (Or.inl ⟨by rfl, ?hy45⟩) (by assumption) ?rest45
          case hy45 => (intro w hSw; (try dsimp only at hSw); go_simp; try with_reducible rfl)
          simp only [Act.put, List.setIfInBounds_toArray, List.set_cons_zero, List.set_cons_succ]
          refine wpAnyH_take (i := 21) (oi := ⟨some 93, _, _, _, _, _⟩) (v := ?v46) rfl (by kernel_rfl) (by kernel_rfl) (by kernel_rfl) (fun _ _ _ h => h) (Or.inl ⟨by rfl, ?hy46⟩) (by assumption) ?rest46
          case hy46 => (intro w hSw; (try dsimp only at hSw); go_simp; try with_reducible rfl)
          simp only [Act.put, List.setIfInBounds_toArray, List.set_cons_zero, List.set_cons_succ]
          refine wpAnyH_ready (rs := [17]) (by kernel_rfl) (by simp) ?_
          refine AllReadyH.cons (o := ⟨some 89, _, _, _, _, _⟩) rfl (fun K hK => ?_) AllReadyH.nil
          go_simp
          go_wp2_with (go_at_call 16; refine (P2.out _ H7.out.q).mono ?_; rintro e w8 ⟨rfl, _, f⟩; have H8 := hid (H7.out.kept f); have X8 := hid (X7.out.kept f); have p80 := X8.out.c0; have p81 := X8.out.c1; have p82 := X8.out.c2; have r80 := H8.out.r.c0; have r81 := H8.out.r.c1; have r82 := H8.out.r.c2; have r83 := H8.out.r.c3; have r84 := H8.out.r.c4; have r85 := H8.out.r.c5; clear f)
          refine hK.out _ _ ?_ (fun hHeld => ?_)
          · go_keep
          clear hK K
          refine wpAnyH_ready (rs := [22]) (by kernel_rfl) (by simp) ?_
          refine AllReadyH.cons (o := ⟨some 94, _, _, _, _, _⟩) rfl (fun K hK => ?_) AllReadyH.nil
          go_simp
          go_wp2_with (go_at_call 14; refine (S2.out _).mono ?_; rintro e w9 ⟨rfl, f⟩; have H9 := hid (H8.out.kept f); have X9 := hid (X8.out.kept f); have p90 := X9.out.c0; have p91 := X9.out.c1; have p92 := X9.out.c2; have r90 := H9.out.r.c0; have r91 := H9.out.r.c1; have r92 := H9.out.r.c2; have r93 := H9.out.r.c3; have r94 := H9.out.r.c4; have r95 := H9.out.r.c5; clear f)
          refine hK.out _ _ ?_ (fun hHeld => ?_)
          · go_keep
          clear hK K
          refine wpAnyH_take (i := 23) (oi := ⟨some 95, _, _, _, _, _⟩) (v := ?v47) rfl (by kernel_rfl) (by kernel_rfl) (by kernel_rfl) (fun _ _ _ h => h) (Or.inl ⟨by rfl, ?hy47⟩) (by assumption) ?rest47
          case hy47 => (intro w hSw; (try dsimp only at hSw); go_simp; try with_reducible rfl)
          simp only [Act.put, List.setIfInBounds_toArray, List.set_cons_zero, List.set_cons_succ]
          refine wpAnyH_take (i := 24) (oi := ⟨some 96, _, _, _, _, _⟩) (v := ?v48) rfl (by kernel_rfl) (by kernel_rfl) (by kernel_rfl) (fun _ _ _ h => h) (Or.inl ⟨by rfl, ?hy48⟩) (by assumption) ?rest48
          case hy48 => (intro w hSw; (try dsimp only at hSw); go_simp; try with_reducible rfl)
          simp only [Act.put, List.setIfInBounds_toArray, List.set_cons_zero, List.set_cons_succ]
          refine wpAnyH_take (i := 25) (oi := ⟨some 97, _, _, _, _, _⟩) (v := ?v49) rfl (by kernel_rfl) (by kernel_rfl) (by kernel_rfl) (fun _ _ _ h => h) (Or.inl ⟨by rfl, ?hy49⟩) (by assumption) ?rest49
          case hy49 => (intro w hSw; (try dsimp only at hSw); go_simp; try with_reducible rfl)
          simp only [Act.put, List.setIfInBounds_toArray, List.set_cons_zero, List.set_cons_succ]
          refine wpAnyH_take (i := 26) (oi := ⟨some 98, _, _, _, _, _⟩) (v := ?v50) rfl (by kernel_rfl) (by kernel_rfl) (by kernel_rfl) (fun _ _ _ h => h) (Or.inl ⟨by rfl, ?hy50⟩) (by assumption) ?rest50
          case hy50 => (intro w hSw; (try dsimp only at hSw); go_simp; try with_reducible rfl)
          simp only [Act.put, List.setIfInBounds_toArray, List.set_cons_zero, List.set_cons_succ]
          refine wpAnyH_take (i := 28) (oi := ⟨some 100, _, _, _, _, _⟩) (v := ?v51) rfl (by kernel_rfl) (by kernel_rfl) (by kernel_rfl) (fun _ _ _ h => h) (Or.inl ⟨by rfl, ?hy51⟩) (by assumption) ?rest51
          case hy51 => (intro w hSw; (try dsimp only at hSw); go_simp; try with_reducible rfl)
          simp only [Act.put, List.setIfInBounds_toArray, List.set_cons_zero, List.set_cons_succ]
          refine wpAnyH_take (i := 29) (oi := ⟨some 101, _, _, _, _, _⟩) (v := ?v52) rfl (by kernel_rfl) (by kernel_rfl) (by kernel_rfl) (fun _ _ _ h => h) (Or.inl ⟨by rfl, ?hy52⟩) (by assumption) ?rest52
          case hy52 => (intro w hSw; (try dsimp only at hSw); go_simp; try with_reducible rfl)
          simp only [Act.put, List.setIfInBounds_toArray, List.set_cons_zero, List.set_cons_succ]
          refine wpAnyH_take (i := 30) (oi := ⟨some 102, _, _, _, _, _⟩) (v := ?v53) rfl (by kernel_rfl) (by kernel_rfl) (by kernel_rfl) (fun _ _ _ h => h) (Or.inl ⟨by rfl, ?hy53⟩) (by assumption) ?rest53
          case hy53 => (intro w hSw; (try dsimp only at hSw); go_simp; try with_reducible rfl)
          simp only [Act.put, List.setIfInBounds_toArray, List.set_cons_zero, List.set_cons_succ]
          refine wpAnyH_take (i := 31) (oi := ⟨some 103, _, _, _, _, _⟩) (v := ?v54) rfl (by kernel_rfl) (by kernel_rfl) (by kernel_rfl) (fun _ _ _ h => h) (Or.inl ⟨by rfl, ?hy54⟩) (by assumption) ?rest54
          case hy54 => (intro w hSw; (try dsimp only at hSw); go_simp; try with_reducible rfl)
          simp only [Act.put, List.setIfInBounds_toArray, List.set_cons_zero, List.set_cons_succ]
          refine wpAnyH_ready (rs := [27]) (by kernel_rfl) (by simp) ?_
          refine AllReadyH.cons (o := ⟨some 99, _, _, _, _, _⟩) rfl (fun K hK => ?_) AllReadyH.nil
          go_simp
          go_wp2_with (go_at_call 17; refine (P3.out _ H9.out.q).mono ?_; rintro e w10 ⟨rfl, _, f⟩; have H10 := hid (H9.out.kept f); have X10 := hid (X9.out.kept f); have p100 := X10.out.c0; have p101 := X10.out.c1; have p102 := X10.out.c2; have r100 := H10.out.r.c0; have r101 := H10.out.r.c1; have r102 := H10.out.r.c2; have r103 := H10.out.r.c3; have r104 := H10.out.r.c4; have r105 := H10.out.r.c5; clear f)
          refine hK.out _ _ ?_ (fun hHeld => ?_)
          · go_keep
          clear hK K
          refine wpAnyH_ready (rs := [32]) (by kernel_rfl) (by simp) ?_
          refine AllReadyH.cons (o := ⟨some 104, _, _, _, _, _⟩) rfl (fun K hK => ?_) AllReadyH.nil
          go_simp
          go_wp2_with (go_at_call 14; refine (S3.out _).mono ?_; rintro e w11 ⟨rfl, f⟩; have H11 := hid (H10.out.kept f); have X11 := hid (X10.out.kept f); have p110 := X11.out.c0; have p111 := X11.out.c1; have p112 := X11.out.c2; have r110 := H11.out.r.c0; have r111 := H11.out.r.c1; have r112 := H11.out.r.c2; have r113 := H11.out.r.c3; have r114 := H11.out.r.c4; have r115 := H11.out.r.c5; clear f)
          refine hK.out _ _ ?_ (fun hHeld => ?_)
          · go_keep
          clear hK K
          refine wpAnyH_take (i := 33) (oi := ⟨some 105, _, _, _, _, _⟩) (v := ?v55) rfl (by kernel_rfl) (by kernel_rfl) (by kernel_rfl) (fun _ _ _ h => h) (Or.inl ⟨by rfl, ?hy55⟩) (by assumption) ?rest55
          case hy55 => (intro w hSw; (try dsimp only at hSw); go_simp; try with_reducible rfl)
          simp only [Act.put, List.setIfInBounds_toArray, List.set_cons_zero, List.set_cons_succ]
          refine wpAnyH_take (i := 34) (oi := ⟨some 106, _, _, _, _, _⟩) (v := ?v56) rfl (by kernel_rfl) (by kernel_rfl) (by kernel_rfl) (fun _ _ _ h => h) (Or.inl ⟨by rfl, ?hy56⟩) (by assumption) ?rest56
          case hy56 => (intro w hSw; (try dsimp only at hSw); go_simp; try with_reducible rfl)
          simp only [Act.put, List.setIfInBounds_toArray, List.set_cons_zero, List.set_cons_succ]
          refine wpAnyH_done (by kernel_rfl) ?_ _
          go_wp2
          go_roundw
          case rel => exact ⟨j + 1, C, s', by omega, by go_num, rfl, H11⟩
          case measure => simp [intOf]; omega
    · obtain rfl : j = l.length := by omega
      clear HL
      go_wp2
      go_ret
      exact ⟨by simp, HB0.out.q.nw.fr⟩
theorem plays_walk (b p : Int) (v : Value) (w : World) (h : ∃ ad cap l, v = .slice ad (List.length l) cap ∧ OpsAt w ad l ∧ l.length ≤ maxLen) : Calls Try.prog 3 #[.int .i64 b, .int .i64 p, v] w fun e w' => e = .returned (.bool true) ∧ Fr (fun _ => False) w w' := by
  obtain ⟨ad, cap, l, rfl, g1, g2⟩ := h
  by_cases r1 : Rt b p
  · by_cases h2 : 1000 < l.length
    · exact plays_long b p ad l cap w r1 h2 g2
    · exact plays_loop b p ad l cap w r1 g1 h2
  · exact plays_bad b p ad l cap w r1
end Go.Proofs.Ytnlaocokjilncaa
