/-
  The walk of the law ArenaPlays.
-/
import Derived.Test.YtlikfcdlgkbnoaaDone2
import Derived.Test.YtlikfcdlgkbnoaaSizes
namespace Go.Proofs.Ytlikfcdlgkbnoaa
open Go.RowKit

theorem hid {p : Prop} (h : p) : Hid p := h
/-- Two arenas made one behind the other. -/
theorem pair_new {W w w1 : World} {n : Nat} (h1 : Ar w 61 (W.heap.size + 2) (W.heap.size + 1) W.heap.size (List.replicate n 0) (.slice none 0 0) []) (f1 : Fr (fun _ => False) W w) (z1 : w.heap.size = W.heap.size + 2)
    (h2 : Ar w1 41 (w.heap.size + 2) (w.heap.size + 1) w.heap.size (List.replicate n 0) (.slice none 0 0) []) (f2 : Fr (fun _ => False) w w1) :
    Pair W w1 (W.heap.size + 2) (W.heap.size + 1) W.heap.size (List.replicate n 0) [] (w.heap.size + 2) (w.heap.size + 1) w.heap.size (List.replicate n 0) [] := by
  refine ⟨_, _, h1.carry f2 (fun h => h) (fun h => h) (fun _ _ h => h), h2, ⟨by omega, by omega, by omega, by omega, (fun y hy => by cases hy), (fun y hy => by cases hy), (fun y hy => by cases hy)⟩, ⟨by omega, by omega, by omega, by omega⟩, f1.trans f2⟩

/-- Touched of the one, held against the other one's list. -/
theorem pair_touched {W w : World} {B1 a1 b1 B2 a2 b2 : Nat} {bs : List UInt8} {ss : List Sp} (h : Pair W w B1 a1 b1 bs ss B2 a2 b2 bs ss) (hk : ss.length ≤ 1000002) :
    ∃ v2, w.cell? ⟨a2, 1, none⟩ = some v2 ∧ Calls Try.prog 15 #[.pointer (some ⟨a1, 0, none⟩)] w fun e w' => ∃ ad cap, e = .returned (.slice ad ss.length cap) ∧ w'.cell? ⟨a2, 1, none⟩ = some v2 ∧
      Calls Try.prog 14 #[.slice ad ss.length cap, v2] w' fun e w'' => e = .returned (.bool true) ∧ Pair W w'' B1 a1 b1 bs ss B2 a2 b2 bs ss := by
  have hp := h
  obtain ⟨v1, v2, g1, g2, hs, hw, hf⟩ := h
  refine ⟨v2, g2.c1, (touched_any g1 hk).mono fun e w' ⟨ad, cap, he, ho, hf'⟩ => ⟨ad, cap, he, ?_, ?_⟩⟩
  · exact (g2.carry hf' (fun h => h) (fun h => h) (fun _ _ h => h)).c1
  · exact (same_any ho (owned_fr g2.tr hf' (fun _ _ h => h)) hk).mono fun e w'' ⟨he, hf''⟩ => ⟨he, (hp.fr hf').fr hf''⟩

theorem pair_read {W w : World} {B1 a1 b1 B2 a2 b2 : Nat} {bs : List UInt8} {ss : List Sp} (h : Pair W w B1 a1 b1 bs ss B2 a2 b2 bs ss) (hk : ss.length ≤ 1000000) :
    Calls Try.prog 16 #[.pointer (some ⟨a1, 0, none⟩), .int .i64 0, .int .i64 bs.length] w fun e w' => e = .returned (.tuple #[.string ⟨bs.toArray⟩, .int .i64 0]) ∧ w'.cell? ⟨a2, 0, none⟩ = some (.slice (some ⟨b2, 0, none⟩) bs.length bs.length) ∧
      (convert 39 9 (.slice (some ⟨b2, 0, none⟩) bs.length bs.length)).run Try.prog w' = .ok (.string ⟨bs.toArray⟩) w' ∧ Fr (fun _ => False) W w' := by
  obtain ⟨v1, v2, g1, g2, hs, hw, hf⟩ := h
  have hr := read_ok g1 0 bs.length (by omega) hk
  rw [List.drop_zero, List.take_of_length_le (Nat.le_refl _)] at hr
  refine hr.mono fun e w' ⟨he, hn⟩ => ?_
  obtain ⟨v1', e1, e2, es, f, r⟩ := step_other g2 hs hn
  refine ⟨he, e2.c0, ?_, hf.trans' f ?_⟩
  · have := run_bytes_string (P := Try.prog) 39 5 9 Try.underlying39 Try.underlying5 Try.underlying9 e2.by' 0 bs.length bs.length (by omega)
    rw [List.drop_zero, List.take_of_length_le (Nat.le_refl _)] at this
    exact this
  · have l1 := g1.la
    rintro i hi (h | h | h)
    · omega
    · omega
    · have := (g1.own _ h).1; omega

set_option maxHeartbeats 1000000 in
theorem plays_awake (z : Int) (sv : Value) (w : World) (h1 : 65536 < z) (h2 : z ≤ 2097152) :
    Calls Try.prog 3 #[.int .i64 z, sv] w fun e w' => e = .returned (.bool true) ∧ Fr (fun _ => False) w w' := by
  go_enter Try.func3, Try.ntmps3
  go_wp2_with fail
  refine (awake_any w).mono ?_
  rintro e w1 ⟨rfl, hf⟩
  have HF : Hid (Fr (fun _ => False) w w1) := hf
  clear hf
  go_wp2
  go_ret
  exact ⟨rfl, HF.out⟩

set_option maxHeartbeats 1000000 in
theorem plays_bad (z : Int) (sv : Value) (w : World) (h : z < 0 ∨ 2097152 < z) :
    Calls Try.prog 3 #[.int .i64 z, sv] w fun e w' => e = .returned (.bool true) ∧ Fr (fun _ => False) w w' := by
  have HN : Hid (Calls Try.prog 10 #[.int .i64 z] w fun e w' => e = .returned (.tuple #[.pointer none, .int .i64 12]) ∧ w' = w) := new_bad z w h
  have HN2 : Hid (Calls Try.prog 11 #[.int .i64 z] w fun e w' => e = .returned (.tuple #[.pointer none, .int .i64 12]) ∧ w' = w) := rnew_bad z w h
  rcases h with h | h
  all_goals
    go_enter Try.func3, Try.ntmps3
    go_wp2_with fail
    refine HN.out.mono ?_
    rintro e w' ⟨rfl, hw⟩
    obtain rfl := hw.symm
    go_wp2_with fail
    refine HN2.out.mono ?_
    rintro e w' ⟨rfl, hw⟩
    obtain rfl := hw.symm
    go_wp2_with fail
    refine (awake_any w).mono ?_
    rintro e w1 ⟨rfl, hf⟩
    have HF : Hid (Fr (fun _ => False) w w1) := hf
    clear hf HN HN2
    go_wp2
    go_ret
    exact ⟨rfl, HF.out⟩

set_option maxHeartbeats 1000000 in
theorem plays_great (N : Nat) (sv : Value) (w : World) (hN : N ≤ 65536) (hg : ∀ w', Fr (fun _ => False) w w' → Calls Try.prog 12 #[sv] w' fun e w'' => e = .returned (.bool true) ∧ Fr (fun _ => False) w' w'') :
    Calls Try.prog 3 #[.int .i64 N, sv] w fun e w' => e = .returned (.bool true) ∧ Fr (fun _ => False) w w' := by
  have HG : Hid (∀ w', Fr (fun _ => False) w w' → Calls Try.prog 12 #[sv] w' fun e w'' => e = .returned (.bool true) ∧ Fr (fun _ => False) w' w'') := hg
  clear hg
  go_enter Try.func3, Try.ntmps3
  go_wp2_with fail
  refine (new_ok N w (by omega)).mono ?_
  rintro e w1 ⟨rfl, _, f1, _⟩
  have HF1 : Hid (Fr (fun _ => False) w w1) := f1
  clear f1
  go_wp2_with fail
  refine (rnew_ok N w1 (by omega)).mono ?_
  rintro e w2 ⟨rfl, _, f1, _⟩
  have HF2 : Hid (Fr (fun _ => False) w w2) := HF1.out.trans f1
  clear f1 HF1
  go_wp2_with fail
  refine (awake_any w2).mono ?_
  rintro e w3 ⟨rfl, f1⟩
  have HF3 : Hid (Fr (fun _ => False) w w3) := HF2.out.trans f1
  clear f1 HF2
  go_wp2_with fail
  refine (HG.out w3 HF3.out).mono ?_
  rintro e w4 ⟨rfl, f1⟩
  have HF4 : Hid (Fr (fun _ => False) w w4) := HF3.out.trans f1
  clear f1 HF3 HG
  go_wp2
  go_ret
  exact ⟨rfl, HF4.out⟩

set_option maxRecDepth 20000 in
set_option maxHeartbeats 4000000 in
theorem plays_small {b off cap : Nat} {ops : List OpV} (N : Nat) (w : World) (hN : N ≤ 65536) (ho : OpsAt w b off ops) (hb : b < w.heap.size) (hok : ∀ i (hi : i < ops.length), (ops[i]).ok) (hl : ops.length ≤ 500)
    (hg : ∀ w', Fr (fun _ => False) w w' → Calls Try.prog 12 #[.slice (some ⟨b, off, none⟩) ops.length cap] w' fun e w'' => e = .returned (.bool false) ∧ Fr (fun _ => False) w' w'') :
    Calls Try.prog 3 #[.int .i64 N, .slice (some ⟨b, off, none⟩) ops.length cap] w fun e w' => e = .returned (.bool true) ∧ Fr (fun _ => False) w w' := by
  have HG : Hid (∀ w', Fr (fun _ => False) w w' → Calls Try.prog 12 #[.slice (some ⟨b, off, none⟩) ops.length cap] w' fun e w'' => e = .returned (.bool false) ∧ Fr (fun _ => False) w' w'') := hg
  have HO : Hid (OpsAt w b off ops) := ho
  have HOK : Hid (∀ i (hi : i < ops.length), (ops[i]).ok) := hok
  clear hg ho hok
  go_enter Try.func3, Try.ntmps3
  go_wp2_with fail
  refine (new_ok N w (by omega)).mono ?_
  rintro e w1 ⟨rfl, h1, f1, z1⟩
  have H1 : Hid (Ar w1 61 (w.heap.size + 2) (w.heap.size + 1) w.heap.size (List.replicate N 0) (.slice none 0 0) [] ∧ Fr (fun _ => False) w w1 ∧ w1.heap.size = w.heap.size + 2) := ⟨h1, f1, z1⟩
  clear h1 f1 z1
  go_wp2_with fail
  refine (rnew_ok N w1 (by omega)).mono ?_
  rintro e w2 ⟨rfl, h2, f2, _⟩
  have HP2 : Hid (Pair w w2 (w.heap.size + 2) (w.heap.size + 1) w.heap.size (List.replicate N 0) [] (w1.heap.size + 2) (w1.heap.size + 1) w1.heap.size (List.replicate N 0) []) := pair_new H1.out.1 H1.out.2.1 H1.out.2.2 h2 f2
  clear h2 f2 H1
  go_wp2_with fail
  refine (awake_any w2).mono ?_
  rintro e w3 ⟨rfl, f1⟩
  have HP3 : Hid (Pair w w3 (w.heap.size + 2) (w.heap.size + 1) w.heap.size (List.replicate N 0) [] (w1.heap.size + 2) (w1.heap.size + 1) w1.heap.size (List.replicate N 0) []) := HP2.out.fr f1
  clear f1 HP2
  go_wp2_with fail
  have HF3 : Hid (Fr (fun _ => False) w w3) := by
    obtain ⟨_, _, _, _, _, _, hf⟩ := HP3.out
    exact hf
  refine (HG.out w3 HF3.out).mono ?_
  rintro e w4 ⟨rfl, f1⟩
  have HP4 : Hid (Pair w w4 (w.heap.size + 2) (w.heap.size + 1) w.heap.size (List.replicate N 0) [] (w1.heap.size + 2) (w1.heap.size + 1) w1.heap.size (List.replicate N 0) []) := HP3.out.fr f1
  clear f1 HP3 HF3 HG
  generalize w.heap.size + 2 = B1 at *
  generalize w.heap.size + 1 = a1 at *
  generalize w1.heap.size + 2 = B2 at *
  generalize w1.heap.size + 1 = a2 at *
  generalize w1.heap.size = b2 at *
  go_wp2
  go_loopw [10, 52] (fun _ i wr => ∃ (j : Nat) (bs : List UInt8) (ss : List Sp), j ≤ ops.length ∧ i = .int .i64 j ∧ bs.length = N ∧ ss.length ≤ 2 * j ∧ Pair w wr B1 a1 w.heap.size bs ss B2 a2 b2 bs ss) (fun _ i _ => ops.length - (intOf i).toNat)
  case atStart => exact ⟨0, _, _, by omega, rfl, List.length_replicate, by simp, HP4.out⟩
  case round =>
    obtain ⟨j, bs, ss, hj, rfl, hbl, hsl, hp⟩ := hrel
    have HP : Hid (Pair w wr B1 a1 w.heap.size bs ss B2 a2 b2 bs ss) := hp
    have HBL : Hid (bs.length = N) := hbl
    clear HP4
    by_cases hlt : j < ops.length
    · have hf : Fr (fun _ => False) w wr := by
        obtain ⟨_, _, _, _, _, _, hf⟩ := hp
        exact hf
      obtain ⟨p0, p1, p2, p3, p4, p5⟩ := HO.out.fr hf hb (fun h => h) j hlt
      have hokj := HOK.out j hlt
      generalize ops[j] = o at *
      have HD : Hid (∀ wx, Pair w wx B1 a1 w.heap.size bs ss B2 a2 b2 bs ss → Calls Try.prog 13 #[.pointer (some ⟨a1, 0, none⟩), .pointer (some ⟨a2, 0, none⟩), .agg #[.int .i64 o.kind, .int .i64 o.a, .int .i64 o.b, .int .i64 o.c, .int .u64 o.v, .string o.data]] wx fun e w' => e = .returned (.bool true) ∧ Alike2 w w' B1 a1 w.heap.size B2 a2 b2 bs.length (ss.length + 2)) :=
        fun wx h => done_any h o hokj (by omega)
      have HB : Hid (Pair w (wr.alloc (.cells #[.int .i64 o.kind, .int .i64 o.a, .int .i64 o.b, .int .i64 o.c, .int .u64 o.v, .string o.data] 34)).drew B1 a1 w.heap.size bs ss B2 a2 b2 bs ss) := HP.out.fr ((Fr.refl _ wr).alloc _).drew
      clear hf hp hokj hbl
      go_wp2_with fail
      go_region_with (first | (go_at_call 13; refine (HD.out _ ?_).mono ?_; exact HB.out; rintro e w5 ⟨rfl, bs', ss', hbl', hsl', hp'⟩; obtain ⟨v2, c1, hT⟩ := pair_touched hp' (by omega); have HT := hid hT; have HBL' := hid hbl'; clear hT hbl' hp') | (go_at_call 15; refine HT.out.mono ?_; rintro e w6 ⟨ad, cap6, rfl, c6, hS⟩; have HS := hid hS; clear hS) | (go_at_call 14; refine HS.out.mono ?_; rintro e w7 ⟨rfl, hp7⟩; have HP7 := hid hp7; clear hp7))
      all_goals
        go_wp2
        go_roundw
        case rel => exact ⟨j + 1, bs', ss', by omega, by go_num, HBL'.out.trans HBL.out, by omega, HP7.out⟩
        case measure => simp [intOf]; omega
    · obtain rfl : j = ops.length := by omega
      have HR : Hid (Calls Try.prog 16 #[.pointer (some ⟨a1, 0, none⟩), .int .i64 0, .int .i64 N] wr fun e w' => e = .returned (.tuple #[.string ⟨bs.toArray⟩, .int .i64 0]) ∧ w'.cell? ⟨a2, 0, none⟩ = some (.slice (some ⟨b2, 0, none⟩) bs.length bs.length) ∧
          (convert 39 9 (.slice (some ⟨b2, 0, none⟩) bs.length bs.length)).run Try.prog w' = .ok (.string ⟨bs.toArray⟩) w' ∧ Fr (fun _ => False) w w') := by
        have := pair_read HP.out (by omega)
        rw [hbl] at this ⊢
        exact this
      clear hp hbl HP
      go_wp2_with fail
      refine HR.out.mono ?_
      rintro e w5 ⟨rfl, c0, hcv, hf⟩
      have HF : Hid (Fr (fun _ => False) w w5) := hf
      clear hf HR
      go_wp2
      go_ret
      exact ⟨by simp, HF.out⟩

set_option maxHeartbeats 1000000 in
theorem plays_none (N : Nat) (ad : Option Addr) (cap : Nat) (w : World) (hN : N ≤ 65536) :
    Calls Try.prog 3 #[.int .i64 N, .slice ad 0 cap] w fun e w' => e = .returned (.bool true) ∧ Fr (fun _ => False) w w' := by
  go_enter Try.func3, Try.ntmps3
  go_wp2_with fail
  refine (new_ok N w (by omega)).mono ?_
  rintro e w1 ⟨rfl, h1, f1, z1⟩
  have H1 : Hid (Ar w1 61 (w.heap.size + 2) (w.heap.size + 1) w.heap.size (List.replicate N 0) (.slice none 0 0) [] ∧ Fr (fun _ => False) w w1 ∧ w1.heap.size = w.heap.size + 2) := ⟨h1, f1, z1⟩
  clear h1 f1 z1
  go_wp2_with fail
  refine (rnew_ok N w1 (by omega)).mono ?_
  rintro e w2 ⟨rfl, h2, f2, _⟩
  have HP2 : Hid (Pair w w2 (w.heap.size + 2) (w.heap.size + 1) w.heap.size (zs N) [] (w1.heap.size + 2) (w1.heap.size + 1) w1.heap.size (zs N) []) := pair_new H1.out.1 H1.out.2.1 H1.out.2.2 h2 f2
  clear h2 f2 H1
  go_wp2_with fail
  refine (awake_any w2).mono ?_
  rintro e w3 ⟨rfl, f1⟩
  have HP3 : Hid (Pair w w3 (w.heap.size + 2) (w.heap.size + 1) w.heap.size (zs N) [] (w1.heap.size + 2) (w1.heap.size + 1) w1.heap.size (zs N) []) := HP2.out.fr f1
  clear f1 HP2
  go_wp2_with fail
  refine (great_none ad cap).mono ?_
  rintro e w' ⟨rfl, hw⟩
  obtain rfl := hw.symm
  have HR : Hid (Calls Try.prog 16 #[.pointer (some ⟨w.heap.size + 1, 0, none⟩), .int .i64 0, .int .i64 N] w3 fun e w' => e = .returned (.tuple #[.string ⟨(zs N).toArray⟩, .int .i64 0]) ∧ w'.cell? ⟨w1.heap.size + 1, 0, none⟩ = some (.slice (some ⟨w1.heap.size, 0, none⟩) N N) ∧
      (convert 39 9 (.slice (some ⟨w1.heap.size, 0, none⟩) N N)).run Try.prog w' = .ok (.string ⟨(zs N).toArray⟩) w' ∧ Fr (fun _ => False) w w') := by
    have := pair_read HP3.out (by simp)
    rw [zs_length] at this
    exact this
  clear HP3
  go_wp2
  refine wp_loop_rounds 1 ?_
  rw [rounds_succ]
  go_wp2_with fail
  refine HR.out.mono ?_
  rintro e w5 ⟨rfl, c0, hcv, hf⟩
  have HF : Hid (Fr (fun _ => False) w w5) := hf
  clear hf HR
  go_wp2
  go_ret
  exact ⟨by simp, HF.out⟩

/-- What is known of a script: no call; or calls that lie in memory. -/
theorem plays_any (z : Int) (sv : Value) (w : World) (h : (∃ ad cap, sv = .slice ad 0 cap) ∨ ∃ b off cap ops, sv = .slice (some ⟨b, off, none⟩) (List.length ops) cap ∧ OpsAt w b off ops ∧ b < w.heap.size ∧ (∀ i (hi : i < ops.length), (ops[i]).ok) ∧ ops.length ≤ maxLen ∧ 0 < ops.length) :
    Calls Try.prog 3 #[.int .i64 z, sv] w fun e w' => e = .returned (.bool true) ∧ Fr (fun _ => False) w w' := by
  by_cases h1 : z < 0 ∨ 2097152 < z
  · exact plays_bad z sv w h1
  by_cases h2 : 65536 < z
  · exact plays_awake z sv w h2 (by omega)
  obtain ⟨N, rfl⟩ := Int.eq_ofNat_of_zero_le (show 0 ≤ z by omega)
  rcases h with ⟨ad, cap, rfl⟩ | ⟨b, off, cap, ops, rfl, ho, hb, hok, hl, h0⟩
  · exact plays_none N ad cap w (by omega)
  · have hg : ∀ w', Fr (fun _ => False) w w' → Calls Try.prog 12 #[.slice (some ⟨b, off, none⟩) ops.length cap] w' fun e w'' => e = .returned (.bool (greatL ops 0 || decide (500 < ops.length))) ∧ Fr (fun _ => False) w' w'' :=
      fun w' hf => great_pos (ho.fr hf hb (fun h => h)) (by have := hf.size; omega) hl (fun i hi => (hok i hi).d1) h0
    cases hgr : (greatL ops 0 || decide (500 < ops.length)) with
    | true =>
      rw [hgr] at hg
      exact plays_great N _ w (by omega) hg
    | false =>
      rw [hgr] at hg
      rw [Bool.or_eq_false_iff, decide_eq_false_iff_not] at hgr
      exact plays_small N w (by omega) ho hb hok (by omega) hg
end Go.Proofs.Ytlikfcdlgkbnoaa
