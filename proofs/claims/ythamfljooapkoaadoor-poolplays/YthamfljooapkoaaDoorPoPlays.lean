/-
  In every order of calls owners have the colours that the document says: the walk of the law PoolPlays.
-/
import Derived.Test.YthamfljooapkoaaDoorPoDone
import Derived.Test.YthamfljooapkoaaDoorPoOpen
namespace Go.Proofs.YthamfljooapkoaaDoor
open Go.RowKit

set_option maxRecDepth 20000 in
set_option maxHeartbeats 1000000 in
theorem plays_bad {n : Int} (h : ¬ (1 ≤ n ∧ n ≤ 32)) (ad : Option Addr) (len cap : Nat) (hlen : len ≤ maxLen) (w : World) (g : Gr w) : Calls Tryd.prog 3 #[.int .i64 n, .slice ad len cap] w fun e w' => e = .returned (.bool true) ∧ Fr (fun _ => False) w w' := by
  have H1 := hid fun w => p_new_no h w
  have H2 := hid fun w => r_new_no h w
  have HA := hid fun w0 (f : Fr (fun _ => False) w w0) => awake_f w0 (g.fr f)
  have hl : len ≤ 9223372036854775807 := by simp only [maxLen] at hlen; omega
  clear g h hlen
  by_cases hm : 1000 < len
  · go_enter Tryd.func3, Tryd.ntmps3
    go_wp2_with fail
    refine (H1.out _).mono ?_
    rintro e w1 ⟨rfl, f⟩
    have HF1 := hid f
    clear f
    go_wp2_with fail
    refine (H2.out _).mono ?_
    rintro e w2 ⟨rfl, f⟩
    have HF2 := hid (HF1.out.trans f)
    clear f HF1
    go_wp2_with fail
    refine (HA.out _ HF2.out).mono ?_
    rintro e w3 ⟨rfl, f⟩
    have HF3 := hid (HF2.out.trans f)
    clear f HF2
    go_wp2_with fail
    refine (HA.out _ HF3.out).mono ?_
    rintro e w4 ⟨rfl, f⟩
    have HF4 := hid (HF3.out.trans f)
    clear f HF3
    go_wp2
    go_ret
    exact ⟨by simp, HF4.out⟩
  · go_enter Tryd.func3, Tryd.ntmps3
    go_wp2_with fail
    refine (H1.out _).mono ?_
    rintro e w1 ⟨rfl, f⟩
    have HF1 := hid f
    clear f
    go_wp2_with fail
    refine (H2.out _).mono ?_
    rintro e w2 ⟨rfl, f⟩
    have HF2 := hid (HF1.out.trans f)
    clear f HF1
    go_wp2_with fail
    refine (HA.out _ HF2.out).mono ?_
    rintro e w3 ⟨rfl, f⟩
    have HF3 := hid (HF2.out.trans f)
    clear f HF2
    go_wp2
    go_ret
    exact ⟨by simp, HF3.out⟩
/-- The two pools, made one behind the other. -/
theorem start_both {W w1 w2 w3 : World} {a r t : Nat} {Z : Nat → Prop} {own : List Int} (hp : Pn W w1 a Z own) (f2 : Fr (fun _ => False) w1 w2) (hr : w1.heap.size ≤ r) (ht : w1.heap.size ≤ t) (hd : Rp w2 r t own) (f3 : Fr (fun _ => False) w2 w3) : Bo W w3 a Z r t own :=
  ⟨(hp.kept f2).kept f3, hd.kept f3, fun e => by have := hp.m.zlt _ e; omega, fun e => by have := hp.m.zlt _ e; omega, by have := hp.nw.le; omega, by have := hp.nw.le; omega⟩
set_option maxRecDepth 20000 in
set_option maxHeartbeats 4000000 in
theorem plays_yes {n : Nat} (h1 : 1 ≤ n) (h2 : n ≤ 32) (ad : Option Addr) (l : List (Int × Int × Int)) (cap : Nat) (hlen : l.length ≤ maxLen) (w : World) (hops : OpsAt w ad l) (g : Gr w) : Calls Tryd.prog 3 #[.int .i64 (n : Int), .slice ad l.length cap] w fun e w' => e = .returned (.bool true) ∧ Fr (fun _ => False) w w' := by
  have H1 := hid (n_new h1 h2 (Nw.start w) g)
  have H2 := hid fun w => r_new h1 h2 w
  have HA := hid fun w0 (f : Fr (fun _ => False) w w0) => awake_f w0 (g.fr f)
  have HOP := hid hops
  have hl : l.length ≤ 9223372036854775807 := by simp only [maxLen] at hlen; omega
  clear g h1 h2 hlen hops
  go_enter Tryd.func3, Tryd.ntmps3
  go_wp2_with fail
  refine H1.out.mono ?_
  rintro e w1 ⟨a, Z, rfl, _, hm, _⟩
  have HM1 := hid hm
  clear hm H1
  go_wp2_with fail
  refine (H2.out _).mono ?_
  rintro e w2 ⟨r, t, rfl, hr, ht, hd, f2⟩
  have HB2 := hid (start_both HM1.out f2 hr ht hd (Fr.refl _ _))
  clear hr ht hd f2 HM1 H2
  go_wp2_with fail
  refine (HA.out _ HB2.out.p.nw.fr).mono ?_
  rintro e w3 ⟨rfl, f3⟩
  have HB3 := hid (HB2.out.kept f3)
  clear f3 HB2
  by_cases hm : 1000 < l.length
  · go_wp2_with fail
    refine (HA.out _ HB3.out.p.nw.fr).mono ?_
    rintro e w4 ⟨rfl, f4⟩
    have HB4 := hid (HB3.out.kept f4)
    clear f4 HB3
    go_wp2
    go_ret
    exact ⟨by simp, HB4.out.p.nw.fr⟩
  clear HA
  generalize List.replicate n (-1) = own0 at *
  go_wp2
  go_loopw [5, 52] (fun s i wr => ∃ (j a : Nat) (Z : Nat → Prop) (own : List Int), j ≤ l.length ∧ i = .int .i64 j ∧ s = .pointer (some ⟨a, 0, none⟩) ∧ Hid (Bo w wr a Z r t own)) (fun _ i _ => l.length - (intOf i).toNat)
  case atStart => exact ⟨0, a, Z, own0, by omega, rfl, rfl, HB3⟩
  case round =>
    clear HB3
    obtain ⟨j, a, Z, own, hj, rfl, rfl, HB0⟩ := hrel
    by_cases hlt : j < l.length
    · obtain ⟨bb, off, rfl, hbb, hc1, hc2, hc3⟩ := HOP.out.fr HB0.out.p.nw.fr j hlt
      generalize l[j] = op at *
      obtain ⟨kind, ow, k⟩ := op
      simp only at hc1 hc2 hc3
      have HB := hid (HB0.out.alloc (.cells #[.int .i64 kind, .int .i64 ow, .int .i64 k] 32))
      have HX := hid (Bx.new wr kind ow k)
      have HNX : Hid (¬ ZT Z t wr.heap.size) := fun e => by
        rcases e with e | e
        · exact HB0.out.p.new e
        · have := HB0.out.d.ltt; omega
      clear HB0 HOP
      by_cases hin : 1 ≤ kind ∧ kind ≤ 3
      · obtain ⟨i1, i2⟩ := hin
        have HD := hid (done_any (HB.out.kept (Fr.refl _ _).drew) kind ow k)
        generalize stepP own kind ow k = own' at *
        have HWI : Hid (∀ w0 Z0, Bo w w0 a Z0 r t own' → Calls Tryd.prog 14 #[.pointer (some ⟨r, 0, none⟩), .int .i64 (-1)] w0 fun e w' => (∃ ad cap, e = .returned (.slice ad (wN own' (-1)).length cap)) ∧ Fr (fun _ => False) w0 w') := fun w0 Z0 h => (r_window h.d (-1)).mono fun _ _ ⟨⟨ad, cap, he, _, _⟩, f⟩ => ⟨⟨ad, cap, by rw [he, nI_length]⟩, f⟩
        have HFR : Hid (∀ w0 Z0, Bo w w0 a Z0 r t own' → Calls Tryd.prog 13 #[.pointer (some ⟨a, 0, none⟩)] w0 fun e w' => e = .returned (.int .i64 ((wN own' (-1)).length : Nat)) ∧ Fr (fun _ => False) w0 w') := fun w0 Z0 h => p_free h.p.m
        generalize (wN own' (-1)).length = fr at *
        clear HB
        go_wp2_with fail
        clear hc1 hc2 hc3 hbb
        go_region_held (fun w' => w'.cell? ⟨wr.heap.size, 0, none⟩ = some (.int .i64 kind) ∧ w'.cell? ⟨wr.heap.size, 1, none⟩ = some (.int .i64 ow) ∧ w'.cell? ⟨wr.heap.size, 2, none⟩ = some (.int .i64 k)) (go_keep) (first | (go_at_call 12; refine HD.out.mono ?_; rintro e w5 ⟨rfl, Z5, h5, _, f5⟩; have HX5 := hid (HX.out.carry (Fr.trans (Fr.refl _ _).drew f5) HNX.out); have p5 := HX5.out.c0; have q5 := HX5.out.c1; have s5 := HX5.out.c2; have H5 := hid h5; clear h5 f5) | (go_at_call 13; refine (HFR.out _ _ H5.out).mono ?_; rintro e w6 ⟨rfl, f6⟩; have H6 := hid (H5.out.kept f6); have HX6 := hid (HX5.out.kept f6); have p6 := HX6.out.c0; have q6 := HX6.out.c1; have s6 := HX6.out.c2; clear f6) | (go_at_call 14; refine (HWI.out _ _ H6.out).mono ?_; rintro e w7 ⟨⟨wad, wcap, rfl⟩, f7⟩; have H7 := hid (H6.out.kept f7); have HX7 := hid (HX6.out.kept f7); have p7 := HX7.out.c0; have q7 := HX7.out.c1; have s7 := HX7.out.c2; clear f7) | (go_at_call 15; refine (p_owner H7.out.p.m k).mono ?_; rintro e w8 ⟨rfl, f8⟩; have H8 := hid (H7.out.kept f8); have HX8 := hid (HX7.out.kept f8); have p8 := HX8.out.c0; have q8 := HX8.out.c1; have s8 := HX8.out.c2; clear f8) | (go_at_call 16; refine (r_owner H8.out.d k).mono ?_; rintro e w9 ⟨rfl, f9⟩; have H9 := hid (H8.out.kept f9); have HX9 := hid (HX8.out.kept f9); have p9 := HX9.out.c0; have q9 := HX9.out.c1; have s9 := HX9.out.c2; clear f9))
        all_goals
          go_wp2
          have HNI : Hid (∀ q : Nat, q < 8 → wiL own' (q : Int) = wN own' (q : Int)) := fun q hq => by unfold wiL; exact if_pos ⟨by omega, by omega⟩
          have hwl : Hid (∀ o, (nI (wN own' o)).length ≤ 1000) := fun o => by have := wN_le own' o; have := H9.out.d.own.most; rw [nI_length]; omega
          go_loopw [93] (fun i wq => ∃ q : Nat, q ≤ 8 ∧ i = .int .i64 q ∧ Hid (Bo w wq a Z5 r t own')) (fun i _ => 8 - (intOf i).toNat)
          case atStart => exact ⟨0, by omega, rfl, H9⟩
          case round =>
            clear H5 H6 H7 H8 H9 HX5 HX6 HX7 HX8 HX9
            obtain ⟨q, hq, rfl, HQ⟩ := hrel
            by_cases hq8 : q < 8
            · have HP := hid (p_window HQ.out.p.m (q : Int))
              rw [HNI.out q hq8] at HP
              go_wp2_with fail
              refine HP.out.mono ?_
              rintro e wa ⟨⟨ad1, c1, rfl, hk, _, _⟩, fa⟩
              have HQ1 := hid (HQ.out.kept fa)
              have HK := hid hk.at_
              clear hk fa HP HQ
              go_wp2_with fail
              refine (r_window HQ1.out.d (q : Int)).mono ?_
              rintro e wb ⟨⟨ad2, c2, rfl, hn, _⟩, fb⟩
              have HQ2 := hid (HQ1.out.kept fb)
              have HK1 := hid (HK.out.fr fb)
              have HK2 := hid hn
              have HLQ := hid (hwl.out (q : Int))
              clear hn fb HQ1 HK
              generalize nI (wN own' (q : Int)) = L at *
              go_wp2_with fail
              refine (same_yes c1 c2 HK1.out HK2.out HLQ.out).mono ?_
              rintro e wc ⟨rfl, fc⟩
              have HQ3 := hid (HQ2.out.kept fc)
              clear fc HQ2 HK1 HK2
              go_wp2
              go_roundw
              case rel => exact ⟨q + 1, by omega, by go_num, HQ3⟩
              case measure => simp [intOf]; omega
            · obtain rfl : q = 8 := by omega
              go_wp2
              go_roundw
              case rel => exact ⟨j + 1, a, Z5, own', by omega, by go_num, rfl, HQ⟩
              case measure => simp [intOf]; omega
      · by_cases i1 : kind < 1
        · clear hin
          go_wp2_with fail
          clear hc1 hc2 hc3 hbb
          refine (n_copy HB.out.p).mono ?_
          rintro e w3 ⟨a', Z', rfl, hz', hm', f3⟩
          have HC3 := hid hm'
          have HB3 := hid (HB.out.kept f3)
          have HX3 := hid (HX.out.kept f3)
          have HZ3 : Hid (∀ i, Z' i → wr.heap.size + 1 ≤ i) := fun i hi => by simpa using hz' i hi
          have HZlt : Hid (∀ i, Z' i → i < w3.heap.size) := hm'.m.zlt
          have HAP : Hid (∀ i, Z' i → ¬ Z i) := fun i hi e => by have h1 := HB.out.p.m.zlt i e; have h2 := hz' i hi; omega
          have hds : Hid (¬ Z' r ∧ ¬ Z' t) := ⟨fun e => by have h1 := HB.out.d.ltr; have h2 := hz' r e; omega, fun e => by have h1 := HB.out.d.ltt; have h2 := hz' t e; omega⟩
          clear hz' hm' f3 HB HX
          go_wp2_with fail
          refine (n_grant HB3.out.p 0 1).mono ?_
          rintro e w4 ⟨Z4, ⟨gad, gcap, rfl, _, _⟩, _, _, f4⟩
          have HB : Hid (Bo w w4 a' Z' r t own) := ⟨⟨HC3.out.m.carry f4 HAP.out (fun e => by have := HB3.out.p.z 0 e; have := HB3.out.p.p0; omega), HC3.out.z, HC3.out.nw.on f4 HB3.out.p.z, HC3.out.p0⟩, HB3.out.mid f4, hds.out.1, hds.out.2, HB3.out.r0, HB3.out.t0⟩
          have HX := hid (HX3.out.carry f4 (fun e => HNX.out (.inl e)))
          have HNX' : Hid (¬ ZT Z' t wr.heap.size) := fun e => by
            rcases e with e | e
            · have := HZ3.out _ e; omega
            · exact HNX.out (.inr e)
          clear f4 HB3 HC3 HX3 HNX HZ3 HZlt HAP hds
          have HNX := HNX'
          clear HNX'
          have x0 := HX.out.c0
          have x1 := HX.out.c1
          have x2 := HX.out.c2
          have HD := hid (done_any (HB.out.kept (Fr.refl _ _).drew) kind ow k)
          generalize stepP own kind ow k = own' at *
          have HWI : Hid (∀ w0 Z0, Bo w w0 a' Z0 r t own' → Calls Tryd.prog 14 #[.pointer (some ⟨r, 0, none⟩), .int .i64 (-1)] w0 fun e w' => (∃ ad cap, e = .returned (.slice ad (wN own' (-1)).length cap)) ∧ Fr (fun _ => False) w0 w') := fun w0 Z0 h => (r_window h.d (-1)).mono fun _ _ ⟨⟨ad, cap, he, _, _⟩, f⟩ => ⟨⟨ad, cap, by rw [he, nI_length]⟩, f⟩
          have HFR : Hid (∀ w0 Z0, Bo w w0 a' Z0 r t own' → Calls Tryd.prog 13 #[.pointer (some ⟨a', 0, none⟩)] w0 fun e w' => e = .returned (.int .i64 ((wN own' (-1)).length : Nat)) ∧ Fr (fun _ => False) w0 w') := fun w0 Z0 h => p_free h.p.m
          generalize (wN own' (-1)).length = fr at *
          clear HB
          go_wp2_with fail
          go_region_held (fun w' => w'.cell? ⟨wr.heap.size, 0, none⟩ = some (.int .i64 kind) ∧ w'.cell? ⟨wr.heap.size, 1, none⟩ = some (.int .i64 ow) ∧ w'.cell? ⟨wr.heap.size, 2, none⟩ = some (.int .i64 k)) (go_keep) (first | (go_at_call 12; refine HD.out.mono ?_; rintro e w5 ⟨rfl, Z5, h5, _, f5⟩; have HX5 := hid (HX.out.carry (Fr.trans (Fr.refl _ _).drew f5) HNX.out); have p5 := HX5.out.c0; have q5 := HX5.out.c1; have s5 := HX5.out.c2; have H5 := hid h5; clear h5 f5) | (go_at_call 13; refine (HFR.out _ _ H5.out).mono ?_; rintro e w6 ⟨rfl, f6⟩; have H6 := hid (H5.out.kept f6); have HX6 := hid (HX5.out.kept f6); have p6 := HX6.out.c0; have q6 := HX6.out.c1; have s6 := HX6.out.c2; clear f6) | (go_at_call 14; refine (HWI.out _ _ H6.out).mono ?_; rintro e w7 ⟨⟨wad, wcap, rfl⟩, f7⟩; have H7 := hid (H6.out.kept f7); have HX7 := hid (HX6.out.kept f7); have p7 := HX7.out.c0; have q7 := HX7.out.c1; have s7 := HX7.out.c2; clear f7) | (go_at_call 15; refine (p_owner H7.out.p.m k).mono ?_; rintro e w8 ⟨rfl, f8⟩; have H8 := hid (H7.out.kept f8); have HX8 := hid (HX7.out.kept f8); have p8 := HX8.out.c0; have q8 := HX8.out.c1; have s8 := HX8.out.c2; clear f8) | (go_at_call 16; refine (r_owner H8.out.d k).mono ?_; rintro e w9 ⟨rfl, f9⟩; have H9 := hid (H8.out.kept f9); have HX9 := hid (HX8.out.kept f9); have p9 := HX9.out.c0; have q9 := HX9.out.c1; have s9 := HX9.out.c2; clear f9))
          all_goals
            go_wp2
            have HNI : Hid (∀ q : Nat, q < 8 → wiL own' (q : Int) = wN own' (q : Int)) := fun q hq => by unfold wiL; exact if_pos ⟨by omega, by omega⟩
            have hwl : Hid (∀ o, (nI (wN own' o)).length ≤ 1000) := fun o => by have := wN_le own' o; have := H9.out.d.own.most; rw [nI_length]; omega
            go_loopw [93] (fun i wq => ∃ q : Nat, q ≤ 8 ∧ i = .int .i64 q ∧ Hid (Bo w wq a' Z5 r t own')) (fun i _ => 8 - (intOf i).toNat)
            case atStart => exact ⟨0, by omega, rfl, H9⟩
            case round =>
              clear H5 H6 H7 H8 H9 HX5 HX6 HX7 HX8 HX9
              obtain ⟨q, hq, rfl, HQ⟩ := hrel
              by_cases hq8 : q < 8
              · have HP := hid (p_window HQ.out.p.m (q : Int))
                rw [HNI.out q hq8] at HP
                go_wp2_with fail
                refine HP.out.mono ?_
                rintro e wa ⟨⟨ad1, c1, rfl, hk, _, _⟩, fa⟩
                have HQ1 := hid (HQ.out.kept fa)
                have HK := hid hk.at_
                clear hk fa HP HQ
                go_wp2_with fail
                refine (r_window HQ1.out.d (q : Int)).mono ?_
                rintro e wb ⟨⟨ad2, c2, rfl, hn, _⟩, fb⟩
                have HQ2 := hid (HQ1.out.kept fb)
                have HK1 := hid (HK.out.fr fb)
                have HK2 := hid hn
                have HLQ := hid (hwl.out (q : Int))
                clear hn fb HQ1 HK
                generalize nI (wN own' (q : Int)) = L at *
                go_wp2_with fail
                refine (same_yes c1 c2 HK1.out HK2.out HLQ.out).mono ?_
                rintro e wc ⟨rfl, fc⟩
                have HQ3 := hid (HQ2.out.kept fc)
                clear fc HQ2 HK1 HK2
                go_wp2
                go_roundw
                case rel => exact ⟨q + 1, by omega, by go_num, HQ3⟩
                case measure => simp [intOf]; omega
              · obtain rfl : q = 8 := by omega
                go_wp2
                go_roundw
                case rel => exact ⟨j + 1, a', Z5, own', by omega, by go_num, rfl, HQ⟩
                case measure => simp [intOf]; omega
        · have i2 : 3 < kind := by omega
          clear hin
          go_wp2_with fail
          clear hc1 hc2 hc3 hbb
          refine (n_copy HB.out.p).mono ?_
          rintro e w3 ⟨a', Z', rfl, hz', hm', f3⟩
          have HC3 := hid hm'
          have HB3 := hid (HB.out.kept f3)
          have HX3 := hid (HX.out.kept f3)
          have HZ3 : Hid (∀ i, Z' i → wr.heap.size + 1 ≤ i) := fun i hi => by simpa using hz' i hi
          have HZlt : Hid (∀ i, Z' i → i < w3.heap.size) := hm'.m.zlt
          have HAP : Hid (∀ i, Z' i → ¬ Z i) := fun i hi e => by have h1 := HB.out.p.m.zlt i e; have h2 := hz' i hi; omega
          have hds : Hid (¬ Z' r ∧ ¬ Z' t) := ⟨fun e => by have h1 := HB.out.d.ltr; have h2 := hz' r e; omega, fun e => by have h1 := HB.out.d.ltt; have h2 := hz' t e; omega⟩
          clear hz' hm' f3 HB HX
          go_wp2_with fail
          refine (n_grant HB3.out.p 0 1).mono ?_
          rintro e w4 ⟨Z4, ⟨gad, gcap, rfl, _, _⟩, _, _, f4⟩
          have HB : Hid (Bo w w4 a' Z' r t own) := ⟨⟨HC3.out.m.carry f4 HAP.out (fun e => by have := HB3.out.p.z 0 e; have := HB3.out.p.p0; omega), HC3.out.z, HC3.out.nw.on f4 HB3.out.p.z, HC3.out.p0⟩, HB3.out.mid f4, hds.out.1, hds.out.2, HB3.out.r0, HB3.out.t0⟩
          have HX := hid (HX3.out.carry f4 (fun e => HNX.out (.inl e)))
          have HNX' : Hid (¬ ZT Z' t wr.heap.size) := fun e => by
            rcases e with e | e
            · have := HZ3.out _ e; omega
            · exact HNX.out (.inr e)
          clear f4 HB3 HC3 HX3 HNX HZ3 HZlt HAP hds
          have HNX := HNX'
          clear HNX'
          have x0 := HX.out.c0
          have x1 := HX.out.c1
          have x2 := HX.out.c2
          have HD := hid (done_any (HB.out.kept (Fr.refl _ _).drew) kind ow k)
          generalize stepP own kind ow k = own' at *
          have HWI : Hid (∀ w0 Z0, Bo w w0 a' Z0 r t own' → Calls Tryd.prog 14 #[.pointer (some ⟨r, 0, none⟩), .int .i64 (-1)] w0 fun e w' => (∃ ad cap, e = .returned (.slice ad (wN own' (-1)).length cap)) ∧ Fr (fun _ => False) w0 w') := fun w0 Z0 h => (r_window h.d (-1)).mono fun _ _ ⟨⟨ad, cap, he, _, _⟩, f⟩ => ⟨⟨ad, cap, by rw [he, nI_length]⟩, f⟩
          have HFR : Hid (∀ w0 Z0, Bo w w0 a' Z0 r t own' → Calls Tryd.prog 13 #[.pointer (some ⟨a', 0, none⟩)] w0 fun e w' => e = .returned (.int .i64 ((wN own' (-1)).length : Nat)) ∧ Fr (fun _ => False) w0 w') := fun w0 Z0 h => p_free h.p.m
          generalize (wN own' (-1)).length = fr at *
          clear HB
          go_wp2_with fail
          go_region_held (fun w' => w'.cell? ⟨wr.heap.size, 0, none⟩ = some (.int .i64 kind) ∧ w'.cell? ⟨wr.heap.size, 1, none⟩ = some (.int .i64 ow) ∧ w'.cell? ⟨wr.heap.size, 2, none⟩ = some (.int .i64 k)) (go_keep) (first | (go_at_call 12; refine HD.out.mono ?_; rintro e w5 ⟨rfl, Z5, h5, _, f5⟩; have HX5 := hid (HX.out.carry (Fr.trans (Fr.refl _ _).drew f5) HNX.out); have p5 := HX5.out.c0; have q5 := HX5.out.c1; have s5 := HX5.out.c2; have H5 := hid h5; clear h5 f5) | (go_at_call 13; refine (HFR.out _ _ H5.out).mono ?_; rintro e w6 ⟨rfl, f6⟩; have H6 := hid (H5.out.kept f6); have HX6 := hid (HX5.out.kept f6); have p6 := HX6.out.c0; have q6 := HX6.out.c1; have s6 := HX6.out.c2; clear f6) | (go_at_call 14; refine (HWI.out _ _ H6.out).mono ?_; rintro e w7 ⟨⟨wad, wcap, rfl⟩, f7⟩; have H7 := hid (H6.out.kept f7); have HX7 := hid (HX6.out.kept f7); have p7 := HX7.out.c0; have q7 := HX7.out.c1; have s7 := HX7.out.c2; clear f7) | (go_at_call 15; refine (p_owner H7.out.p.m k).mono ?_; rintro e w8 ⟨rfl, f8⟩; have H8 := hid (H7.out.kept f8); have HX8 := hid (HX7.out.kept f8); have p8 := HX8.out.c0; have q8 := HX8.out.c1; have s8 := HX8.out.c2; clear f8) | (go_at_call 16; refine (r_owner H8.out.d k).mono ?_; rintro e w9 ⟨rfl, f9⟩; have H9 := hid (H8.out.kept f9); have HX9 := hid (HX8.out.kept f9); have p9 := HX9.out.c0; have q9 := HX9.out.c1; have s9 := HX9.out.c2; clear f9))
          all_goals
            go_wp2
            have HNI : Hid (∀ q : Nat, q < 8 → wiL own' (q : Int) = wN own' (q : Int)) := fun q hq => by unfold wiL; exact if_pos ⟨by omega, by omega⟩
            have hwl : Hid (∀ o, (nI (wN own' o)).length ≤ 1000) := fun o => by have := wN_le own' o; have := H9.out.d.own.most; rw [nI_length]; omega
            go_loopw [93] (fun i wq => ∃ q : Nat, q ≤ 8 ∧ i = .int .i64 q ∧ Hid (Bo w wq a' Z5 r t own')) (fun i _ => 8 - (intOf i).toNat)
            case atStart => exact ⟨0, by omega, rfl, H9⟩
            case round =>
              clear H5 H6 H7 H8 H9 HX5 HX6 HX7 HX8 HX9
              obtain ⟨q, hq, rfl, HQ⟩ := hrel
              by_cases hq8 : q < 8
              · have HP := hid (p_window HQ.out.p.m (q : Int))
                rw [HNI.out q hq8] at HP
                go_wp2_with fail
                refine HP.out.mono ?_
                rintro e wa ⟨⟨ad1, c1, rfl, hk, _, _⟩, fa⟩
                have HQ1 := hid (HQ.out.kept fa)
                have HK := hid hk.at_
                clear hk fa HP HQ
                go_wp2_with fail
                refine (r_window HQ1.out.d (q : Int)).mono ?_
                rintro e wb ⟨⟨ad2, c2, rfl, hn, _⟩, fb⟩
                have HQ2 := hid (HQ1.out.kept fb)
                have HK1 := hid (HK.out.fr fb)
                have HK2 := hid hn
                have HLQ := hid (hwl.out (q : Int))
                clear hn fb HQ1 HK
                generalize nI (wN own' (q : Int)) = L at *
                go_wp2_with fail
                refine (same_yes c1 c2 HK1.out HK2.out HLQ.out).mono ?_
                rintro e wc ⟨rfl, fc⟩
                have HQ3 := hid (HQ2.out.kept fc)
                clear fc HQ2 HK1 HK2
                go_wp2
                go_roundw
                case rel => exact ⟨q + 1, by omega, by go_num, HQ3⟩
                case measure => simp [intOf]; omega
              · obtain rfl : q = 8 := by omega
                go_wp2
                go_roundw
                case rel => exact ⟨j + 1, a', Z5, own', by omega, by go_num, rfl, HQ⟩
                case measure => simp [intOf]; omega
    · obtain rfl : j = l.length := by omega
      have HW1 : Hid (wiL own (-1) = [] ∧ wiL own 8 = []) := ⟨by unfold wiL; exact if_neg (by unfold Ow; omega), by unfold wiL; exact if_neg (by unfold Ow; omega)⟩
      have HP1 := hid (p_window HB0.out.p.m (-1))
      rw [HW1.out.1] at HP1
      go_wp2_with fail
      refine HP1.out.mono ?_
      rintro e wa ⟨⟨ad1, c1, rfl, _, _, _⟩, fa⟩
      have HB1 := hid (HB0.out.kept fa)
      have HP2 := hid (p_window HB1.out.p.m 8)
      rw [HW1.out.2] at HP2
      clear fa HB0 HP1
      go_wp2_with fail
      refine HP2.out.mono ?_
      rintro e wb ⟨⟨ad2, c2, rfl, _, _, _⟩, fb⟩
      have HB2 := hid (HB1.out.kept fb)
      clear fb HB1 HP2
      have hz0 : (nI []).length = 0 := rfl
      go_wp2
      go_ret
      exact ⟨by simp, HB2.out.p.nw.fr⟩
theorem plays_walk (n : Int) (v : Value) (w : World) (g : Gr w) (h : ∃ ad cap l, v = .slice ad (List.length l) cap ∧ OpsAt w ad l ∧ l.length ≤ maxLen) : Calls Tryd.prog 3 #[.int .i64 n, v] w fun e w' => e = .returned (.bool true) ∧ Fr (fun _ => False) w w' := by
  obtain ⟨ad, cap, l, rfl, g1, g2⟩ := h
  by_cases hc : 1 ≤ n ∧ n ≤ 32
  · obtain ⟨n, rfl⟩ : ∃ m : Nat, n = (m : Int) := ⟨n.toNat, by omega⟩
    exact plays_yes (by omega) (by omega) ad l cap g2 w g1 g
  · exact plays_bad hc ad _ cap g2 w g
end Go.Proofs.YthamfljooapkoaaDoor
