/-
  The walk of the law ShelfPlays.
-/
import Derived.Test.YtifoeakgefgddaaDoorShBoth
import Derived.Deep.RegionHeld
namespace Go.Proofs.YtifoeakgefgddaaDoor
open Go.RowKit

theorem cell_two {w : World} {x : Nat} {p q : Value} {T : TypeId} (hx : w.heap[x]? = some (.cells #[p, q] T (0, 0))) : w.cell? ⟨x, 0, none⟩ = some p ∧ w.cell? ⟨x, 1, none⟩ = some q := by simp [World.cell?, hx]
section
variable {W w w' : World} {a b r t : Nat} {has hast : List Bool}
theorem p_taken (h : Both W w a b has r t hast) (k : Int) :
    Calls Tryd.prog 19 #[.pointer (some ⟨a, 0, none⟩), .int .i64 k] w fun e w' => e = .returned (.bool (isT has k)) ∧ Both W w' a b has r t hast ∧ Fr (fun _ => False) w w' :=
  (s_taken h.one.sh k).mono fun _ _ ⟨he, n, hw⟩ => ⟨he, by subst hw; exact ⟨h.kept (S := fun _ => False) ((Fr.refl _ w).drewN n) (fun _ h => h.elim), (Fr.refl _ w).drewN n⟩⟩
theorem p_size {N : Nat} (h : Both W w a b has r t hast) (hN : has.length = N) :
    Calls Tryd.prog 21 #[.pointer (some ⟨a, 0, none⟩)] w fun e w' => e = .returned (.int .i64 (N : Int)) ∧ w' = w := by
  subst hN; exact s_size h.one.sh
/-- A copy is made, one is taken from what it was made of, and the copy goes on in its place. -/
theorem p_copy (h : Both W w a b has r t hast) :
    Calls Tryd.prog 12 #[.pointer (some ⟨a, 0, none⟩)] w fun e w' => ∃ a' b', e = .returned (.pointer (some ⟨a', 0, none⟩)) ∧ w.heap.size ≤ b' ∧
      Calls Tryd.prog 13 #[.pointer (some ⟨a, 0, none⟩)] w' fun e w'' => e = .returned (.tuple #[.int .i64 (takV has), .int .i64 (takE has)]) ∧ Both W w'' a' b' has r t hast ∧ Fr (BT b t) w w'' :=
  (s_copy h.one.sh).mono fun _ w1 ⟨a', b', he, hs, hf, l1, l2⟩ => by
    have g1 := h.one.sh.lta; have g2 := h.one.sh.ltb; have g3 := h.ref.ltr; have g4 := h.ref.ltt; have g5 := h.one.fr.size
    refine ⟨a', b', he, l2, ?_⟩
    have h1 : Both W w1 a b has r t hast := h.kept (S := fun _ => False) hf (fun _ h => h.elim)
    have h2 : Mine W w1 a' b' has := ⟨hs, by omega, by omega, h.one.fr.trans hf, h.one.pos⟩
    refine (s_take h1.one.sh).mono fun _ w2 ⟨he2, hs2, hf2⟩ => ⟨he2, ?_, ?_⟩
    · have h3 := h1.step1 hs2 hf2
      exact ⟨h2.kept hf2 (fun i e => by subst e; exact ⟨h.one.lb, by omega, by omega⟩), h3.ref, h.lr, h.lt, by omega, by omega, by omega⟩
    · exact (hf.mono (fun _ _ h => h.elim)).trans hf2.bt1
end

set_option maxRecDepth 20000 in
set_option maxHeartbeats 1000000 in
theorem plays_great (x : Int) (ad : Option Addr) (len cap : Nat) (w : World) (hx : 4096 < x ∧ x ≤ 65536) (hT : Tab w) :
    Calls Tryd.prog 3 #[.int .i64 x, .slice ad len cap] w fun e w' => e = .returned (.bool true) ∧ Fr (fun _ => False) w w' := by
  have HA := hid (awake_any w hT)
  obtain ⟨h1, h2⟩ := hx
  clear hT
  go_enter Tryd.func3, Tryd.ntmps3
  go_wp2_with fail
  refine HA.out.mono ?_
  rintro e w2 ⟨rfl, f2⟩
  have H2 := hid f2
  clear f2 HA
  go_wp2
  go_ret
  exact ⟨by simp, H2.out⟩
set_option maxRecDepth 20000 in
set_option maxHeartbeats 1000000 in
theorem plays_long (x : Int) (ad : Option Addr) (len cap : Nat) (w : World) (hx : ¬ (4096 < x ∧ x ≤ 65536)) (hlen : 500 < len) (hlm : len ≤ 9223372036854775807) (hT : Tab w) :
    Calls Tryd.prog 3 #[.int .i64 x, .slice ad len cap] w fun e w' => e = .returned (.bool true) ∧ Fr (fun _ => False) w w' := by
  have HA := hid (awake_any w hT)
  clear hT
  by_cases h1 : 4096 < x
  · have h2 : 65536 < x := by omega
    clear hx
    go_enter Tryd.func3, Tryd.ntmps3
    go_wp2_with fail
    refine HA.out.mono ?_
    rintro e w2 ⟨rfl, f2⟩
    have H2 := hid f2
    clear f2 HA
    go_wp2
    go_ret
    exact ⟨by simp, H2.out⟩
  · clear hx
    go_enter Tryd.func3, Tryd.ntmps3
    go_wp2_with fail
    refine HA.out.mono ?_
    rintro e w2 ⟨rfl, f2⟩
    have H2 := hid f2
    clear f2 HA
    go_wp2
    go_ret
    exact ⟨by simp, H2.out⟩
set_option maxRecDepth 20000 in
set_option maxHeartbeats 1000000 in
theorem plays_bad (x : Int) (ad : Option Addr) (len cap : Nat) (w : World) (hx : x < 0 ∨ 65536 < x) (hlen : ¬ 500 < len) (hT : Tab w) :
    Calls Tryd.prog 3 #[.int .i64 x, .slice ad len cap] w fun e w' => e = .returned (.bool true) ∧ Fr (fun _ => False) w w' := by
  have HA := hid (awake_any w hT)
  have HN := hid (new_bad x w hx)
  have HR := hid (d_new_bad x w hx)
  clear hT
  by_cases h1 : 4096 < x
  · have h2 : 65536 < x := by omega
    clear hx
    go_enter Tryd.func3, Tryd.ntmps3
    go_wp2_with fail
    refine HN.out.mono ?_
    rintro e w' ⟨rfl, hw⟩
    obtain rfl := hw.symm
    go_wp2_with fail
    refine HR.out.mono ?_
    rintro e w' ⟨rfl, hw⟩
    obtain rfl := hw.symm
    go_wp2_with fail
    refine HA.out.mono ?_
    rintro e w2 ⟨rfl, f2⟩
    have H2 := hid f2
    clear f2 HA
    go_wp2
    go_ret
    exact ⟨by simp, H2.out⟩
  · have h2 : x < 0 := by omega
    clear hx h1
    go_enter Tryd.func3, Tryd.ntmps3
    go_wp2_with fail
    refine HN.out.mono ?_
    rintro e w' ⟨rfl, hw⟩
    obtain rfl := hw.symm
    go_wp2_with fail
    refine HR.out.mono ?_
    rintro e w' ⟨rfl, hw⟩
    obtain rfl := hw.symm
    go_wp2_with fail
    refine HA.out.mono ?_
    rintro e w2 ⟨rfl, f2⟩
    have H2 := hid f2
    clear f2 HA
    go_wp2
    go_ret
    exact ⟨by simp, H2.out⟩

set_option maxRecDepth 20000 in
set_option maxHeartbeats 8000000 in
theorem plays_walk (N : Nat) (ad : Option Addr) (l : List (Int × Int)) (cap : Nat) (w : World) (hN : N ≤ 4096) (hl : OpsAt w ad l) (hll : ¬ 500 < l.length) (hT : Tab w) :
    Calls Tryd.prog 3 #[.int .i64 N, .slice ad l.length cap] w fun e w' => e = .returned (.bool true) ∧ Fr (fun _ => False) w w' := by
  have HN := hid (m_new (W := w) N (Fr.refl _ w) (by omega) hT)
  have HL := hid hl
  clear hl hT
  go_enter Tryd.func3, Tryd.ntmps3
  go_wp2_with fail
  refine HN.out.mono ?_
  rintro e w1 ⟨a, b, rfl, h1⟩
  have HR := hid (d_new N w1 (by omega))
  have H1 := hid h1
  clear h1 HN
  go_wp2_with fail
  refine HR.out.mono ?_
  rintro e w2 ⟨rfl, h2, f2⟩
  have H2 : Hid (Both w w2 a b (List.replicate N false) (w1.heap.size + 1) w1.heap.size (List.replicate N false)) := by
    have g1 := H1.out.sh.lta; have g2 := H1.out.sh.ltb; have g3 := H1.out.fr.size
    exact ⟨H1.out.kept f2 (fun _ h => h.elim), h2, by omega, by omega, by omega, by omega, by omega⟩
  have HA := hid (awake_any w2 H2.out.one.sh.tab)
  clear h2 f2 HR H1
  generalize w1.heap.size + 1 = r at *
  generalize w1.heap.size = t at *
  go_wp2_with fail
  refine HA.out.mono ?_
  rintro e w3 ⟨rfl, f3⟩
  have H3 : Hid (Both w w3 a b (List.replicate N false) r t (List.replicate N false)) := H2.out.kept f3 (fun _ h => h.elim)
  clear f3 HA H2
  go_wp2
  go_loopw [5, 10, 11, 52] (fun s _ _ i wr => ∃ (j a b : Nat) (has : List Bool), j ≤ l.length ∧ i = .int .i64 j ∧ s = .pointer (some ⟨a, 0, none⟩) ∧ has.length = N ∧ Both w wr a b has r t has) (fun _ _ _ i _ => l.length - (intOf i).toNat)
  case atStart => exact ⟨0, a, b, _, by omega, rfl, rfl, by simp, H3.out⟩
  case round =>
    obtain ⟨j, a, b, has, hj, rfl, rfl, hhl, hm⟩ := hrel
    have HH := hid hhl
    clear hhl H3
    by_cases hlt : j < l.length
    · obtain ⟨bb, off, rfl, hbb, hc1, hc2⟩ := HL.out.fr hm.one.fr j hlt
      generalize hk : l[j] = o at hc1 hc2
      obtain ⟨kind, k⟩ := o
      simp only at hc1 hc2
      have hbl := hm.one.sh.ltb
      have htl := hm.ref.ltt
      have HB : Hid (Both w (wr.alloc (.cells #[.int .i64 kind, .int .i64 k] 32)) a b has r t has) := hm.alloc _
      have HX : Hid ((wr.alloc (.cells #[.int .i64 kind, .int .i64 k] 32)).heap[wr.heap.size]? = some (.cells #[.int .i64 kind, .int .i64 k] 32 (0, 0))) := heap_alloc_new _ _
      clear hm hk HL
      by_cases hin : 1 ≤ kind ∧ kind ≤ 3
      · obtain ⟨i1, i2⟩ := hin
        have HNX : Hid (¬ BT b t wr.heap.size) := fun e => by rcases e with e | e <;> omega
        have HD := hid (done_any HB.out.drew kind k)
        have HS := hid ((stepP_length has kind k).trans HH.out)
        generalize stepP has kind k = has' at *
        clear HB HH
        go_wp2_with fail
        clear hc1 hc2 hbb
        go_region_held (fun w' => w'.cell? ⟨wr.heap.size, 0, none⟩ = some (.int .i64 kind) ∧ w'.cell? ⟨wr.heap.size, 1, none⟩ = some (.int .i64 k)) (go_keep) (first | (go_at_call 14; refine HD.out.mono ?_; rintro e w5 ⟨rfl, h5, f5⟩; obtain ⟨p5, q5⟩ := cell_two (box_cell HX.out ((Fr.refl (BT b t) _).drew.trans f5) HNX.out); have HX5 := hid (box_cell HX.out ((Fr.refl (BT b t) _).drew.trans f5) HNX.out); have H5 := hid h5; clear h5 f5) | (go_at_call 15; refine (p_free H5.out).mono ?_; rintro e w6 ⟨rfl, hw⟩; obtain rfl := hw.symm) | (go_at_call 16; refine (d_free H5.out.ref).mono ?_; rintro e w6 ⟨rfl, hw⟩; obtain rfl := hw.symm) | (go_at_call 17; refine (p_lowest H5.out).mono ?_; rintro e w6 ⟨rfl, hw⟩; obtain rfl := hw.symm) | (go_at_call 18; refine (d_lowest H5.out.ref).mono ?_; rintro e w6 ⟨rfl, hw⟩; obtain rfl := hw.symm) | (go_at_call 19; refine (p_taken H5.out k).mono ?_; rintro e w7 ⟨rfl, h7, f7⟩; obtain ⟨p7, q7⟩ := cell_two (box_cell HX5.out f7 (fun h => h)); have H7 := hid h7; clear h7 f7) | (go_at_call 20; refine (d_taken H7.out.ref k).mono ?_; rintro e w8 ⟨rfl, hw⟩; obtain rfl := hw.symm) | (go_at_call 21; refine (p_size H7.out HS.out).mono ?_; rintro e w8 ⟨rfl, hw⟩; obtain rfl := hw.symm))
        all_goals
          go_wp2
          go_roundw
          case rel => exact ⟨j + 1, a, b, has', by omega, by go_num, rfl, HS.out, H7.out⟩
          case measure => simp [intOf]; omega
      · have HC := hid (p_copy HB.out)
        have hnx0 : ¬ BT b t wr.heap.size := fun e => by rcases e with e | e <;> omega
        have HNX0 := hid hnx0
        clear hnx0
        by_cases i1 : kind < 1
        · clear hin
          go_wp2_with fail
          clear hc1 hc2 hbb
          refine HC.out.mono ?_
          rintro e w3 ⟨a', b', rfl, l2, hC⟩
          have HC2 := hid hC
          clear hC HC HB
          go_wp2_with fail
          refine HC2.out.mono ?_
          rintro e w4 ⟨rfl, h4, f4⟩
          have HB := hid h4
          have hbs : wr.heap.size + 1 ≤ b' := by simpa using l2
          have HNX : Hid (¬ BT b' t wr.heap.size) := fun e => by rcases e with e | e <;> omega
          have HX4 := hid (box_cell HX.out f4 HNX0.out)
          have q4 : w4.cell? ⟨wr.heap.size, 0, none⟩ = some (.int .i64 kind) := by simp [World.cell?, HX4.out]
          have q4b := cell_one HX4.out
          clear h4 f4 HC2 HX
          have HX := HX4
          clear HX4
          have HD := hid (done_any HB.out.drew kind k)
          have HS := hid ((stepP_length has kind k).trans HH.out)
          generalize stepP has kind k = has' at *
          clear HB HH
          go_wp2_with fail
          skip
          go_region_held (fun w' => w'.cell? ⟨wr.heap.size, 0, none⟩ = some (.int .i64 kind) ∧ w'.cell? ⟨wr.heap.size, 1, none⟩ = some (.int .i64 k)) (go_keep) (first | (go_at_call 14; refine HD.out.mono ?_; rintro e w5 ⟨rfl, h5, f5⟩; obtain ⟨p5, q5⟩ := cell_two (box_cell HX.out ((Fr.refl (BT b' t) _).drew.trans f5) HNX.out); have HX5 := hid (box_cell HX.out ((Fr.refl (BT b' t) _).drew.trans f5) HNX.out); have H5 := hid h5; clear h5 f5) | (go_at_call 15; refine (p_free H5.out).mono ?_; rintro e w6 ⟨rfl, hw⟩; obtain rfl := hw.symm) | (go_at_call 16; refine (d_free H5.out.ref).mono ?_; rintro e w6 ⟨rfl, hw⟩; obtain rfl := hw.symm) | (go_at_call 17; refine (p_lowest H5.out).mono ?_; rintro e w6 ⟨rfl, hw⟩; obtain rfl := hw.symm) | (go_at_call 18; refine (d_lowest H5.out.ref).mono ?_; rintro e w6 ⟨rfl, hw⟩; obtain rfl := hw.symm) | (go_at_call 19; refine (p_taken H5.out k).mono ?_; rintro e w7 ⟨rfl, h7, f7⟩; obtain ⟨p7, q7⟩ := cell_two (box_cell HX5.out f7 (fun h => h)); have H7 := hid h7; clear h7 f7) | (go_at_call 20; refine (d_taken H7.out.ref k).mono ?_; rintro e w8 ⟨rfl, hw⟩; obtain rfl := hw.symm) | (go_at_call 21; refine (p_size H7.out HS.out).mono ?_; rintro e w8 ⟨rfl, hw⟩; obtain rfl := hw.symm))
          all_goals
            go_wp2
            go_roundw
            case rel => exact ⟨j + 1, a', b', has', by omega, by go_num, rfl, HS.out, H7.out⟩
            case measure => simp [intOf]; omega
        · have i2 : 3 < kind := by omega
          clear hin
          go_wp2_with fail
          clear hc1 hc2 hbb
          refine HC.out.mono ?_
          rintro e w3 ⟨a', b', rfl, l2, hC⟩
          have HC2 := hid hC
          clear hC HC HB
          go_wp2_with fail
          refine HC2.out.mono ?_
          rintro e w4 ⟨rfl, h4, f4⟩
          have HB := hid h4
          have hbs : wr.heap.size + 1 ≤ b' := by simpa using l2
          have HNX : Hid (¬ BT b' t wr.heap.size) := fun e => by rcases e with e | e <;> omega
          have HX4 := hid (box_cell HX.out f4 HNX0.out)
          have q4 : w4.cell? ⟨wr.heap.size, 0, none⟩ = some (.int .i64 kind) := by simp [World.cell?, HX4.out]
          have q4b := cell_one HX4.out
          clear h4 f4 HC2 HX
          have HX := HX4
          clear HX4
          have HD := hid (done_any HB.out.drew kind k)
          have HS := hid ((stepP_length has kind k).trans HH.out)
          generalize stepP has kind k = has' at *
          clear HB HH
          go_wp2_with fail
          skip
          go_region_held (fun w' => w'.cell? ⟨wr.heap.size, 0, none⟩ = some (.int .i64 kind) ∧ w'.cell? ⟨wr.heap.size, 1, none⟩ = some (.int .i64 k)) (go_keep) (first | (go_at_call 14; refine HD.out.mono ?_; rintro e w5 ⟨rfl, h5, f5⟩; obtain ⟨p5, q5⟩ := cell_two (box_cell HX.out ((Fr.refl (BT b' t) _).drew.trans f5) HNX.out); have HX5 := hid (box_cell HX.out ((Fr.refl (BT b' t) _).drew.trans f5) HNX.out); have H5 := hid h5; clear h5 f5) | (go_at_call 15; refine (p_free H5.out).mono ?_; rintro e w6 ⟨rfl, hw⟩; obtain rfl := hw.symm) | (go_at_call 16; refine (d_free H5.out.ref).mono ?_; rintro e w6 ⟨rfl, hw⟩; obtain rfl := hw.symm) | (go_at_call 17; refine (p_lowest H5.out).mono ?_; rintro e w6 ⟨rfl, hw⟩; obtain rfl := hw.symm) | (go_at_call 18; refine (d_lowest H5.out.ref).mono ?_; rintro e w6 ⟨rfl, hw⟩; obtain rfl := hw.symm) | (go_at_call 19; refine (p_taken H5.out k).mono ?_; rintro e w7 ⟨rfl, h7, f7⟩; obtain ⟨p7, q7⟩ := cell_two (box_cell HX5.out f7 (fun h => h)); have H7 := hid h7; clear h7 f7) | (go_at_call 20; refine (d_taken H7.out.ref k).mono ?_; rintro e w8 ⟨rfl, hw⟩; obtain rfl := hw.symm) | (go_at_call 21; refine (p_size H7.out HS.out).mono ?_; rintro e w8 ⟨rfl, hw⟩; obtain rfl := hw.symm))
          all_goals
            go_wp2
            go_roundw
            case rel => exact ⟨j + 1, a', b', has', by omega, by go_num, rfl, HS.out, H7.out⟩
            case measure => simp [intOf]; omega
    · obtain rfl : j = l.length := by omega
      have H5 := hid hm.one.fr
      clear hm HL
      go_wp2
      go_ret
      exact ⟨by simp, H5.out⟩
theorem plays_all (x : Int) (v : Value) (w : World) (h : ∃ ad cap l, v = .slice ad (List.length l) cap ∧ OpsAt w ad l ∧ l.length ≤ maxLen) (hT : Tab w) :
    Calls Tryd.prog 3 #[.int .i64 x, v] w fun e w' => e = .returned (.bool true) ∧ Fr (fun _ => False) w w' := by
  obtain ⟨ad, cap, l, rfl, g1, g2⟩ := h
  by_cases h1 : 4096 < x ∧ x ≤ 65536
  · exact plays_great x ad _ cap w h1 hT
  by_cases h2 : 500 < l.length
  · exact plays_long x ad _ cap w h1 h2 g2 hT
  by_cases h3 : x < 0 ∨ 65536 < x
  · exact plays_bad x ad _ cap w h3 h2 hT
  obtain ⟨N, rfl⟩ : ∃ N : Nat, x = (N : Int) := ⟨x.toNat, by omega⟩
  exact plays_walk N ad l cap w (by omega) g1 h2 hT
end Go.Proofs.YtifoeakgefgddaaDoor
