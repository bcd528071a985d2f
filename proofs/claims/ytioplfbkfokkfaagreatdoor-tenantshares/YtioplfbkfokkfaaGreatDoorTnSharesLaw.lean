/-
  A handle that was restricted does just what its rights allow: the walk of the law TenantShares.
-/
import Derived.Test.YtioplfbkfokkfaaGreatDoorTnShares
namespace Go.Proofs.YtioplfbkfokkfaaGreatDoor
open Go.RowKit
open An

theorem tn_put {W w : World} {x : Tp} {S : TnS} {ts : List (World → (Nat → Prop) → Prop)} (g : Things W w (tnl x S ts)) (ob : Obj) : Things W (w.alloc ob) (tnl x S (Blk w.heap.size ob :: ts)) := Things.rot [Hs x.a x.m x.h x.t x.k S.M S.H, Kc x.c S.c, Qq x.q S.s, Ot x.B S.f S.n, Blk x.T (tob x)] ts (g.blk ob)
theorem sh_all {D : List UInt8} {n : Int} {d : ByteArray} (hd : (d.size : Int) ≤ n) : ∃ dat : ByteArray, (⟨((patch D d.data.toList 0).take n.toNat).toArray⟩ : ByteArray) = dat ∧ (d.size : Int) ≤ (dat.size : Int) ∧ dat.extract 0 d.size = d := by
  have hs : d.data.size = d.size := rfl
  have hp : patch D d.data.toList 0 = d.data.toList ++ D.drop d.size := by
    unfold patch
    simp
  refine ⟨_, rfl, ?_, ?_⟩
  · show (d.size : Int) ≤ ((((patch D d.data.toList 0).take n.toNat).toArray).size : Nat)
    rw [hp]
    simp
    omega
  · apply ByteArray.ext
    rw [ByteArray.data_extract, hp]
    apply Array.toList_inj.1
    rw [Array.toList_extract]
    simp [List.extract_eq_take_drop, List.take_take]
    rw [Nat.min_eq_left (by omega), List.take_append_of_le_length (by simp), List.take_of_length_le (by simp)]
theorem field_ans (E hd ad n : Int) (d : ByteArray) (cg : Int) (w : World) : (Instr.field 38 (ans E hd ad n d cg) 0).run Tryz.prog w = .ok (.int .i64 E) w ∧ (Instr.field 38 (ans E hd ad n d cg) 3).run Tryz.prog w = .ok (.int .i64 n) w ∧ (Instr.field 38 (ans E hd ad n d cg) 4).run Tryz.prog w = .ok (.string d) w := ⟨by kernel_rfl, by kernel_rfl, by kernel_rfl⟩
set_option maxRecDepth 20000 in
set_option maxHeartbeats 8000000 in
theorem shares_walk' {w : World} (gr : G17 w) {P K q id se n r : Int} {ad0 : Option Addr} {cap0 : Nat} {W0 : List Int} {d : ByteArray} (hc : CfgT w ⟨P, K, q, id, se, ad0, cap0, W0⟩) (hn : I64 n) (hr6 : I64 r) : Calls Tryz.prog 4 #[.agg #[.int .i64 P, .int .i64 K, .int .i64 q, .int .i64 id, .int .i64 se, .slice ad0 W0.length cap0], .int .i64 n, .int .i64 r, .string d] w fun e w' => e = .returned (.bool true) ∧ Nw w w' := by
  have HA : Hid (∀ w1 ts, Things w w1 ts → Calls Tryz.prog 6 #[] w1 fun e w' => e = .returned (.bool true) ∧ Things w w' ts) := fun w1 ts h => (awake_any (Nw.start w1) (gr.fr h.nw.fr)).mono fun e w' ⟨he, f⟩ => ⟨he, h.kept f.fr⟩
  have G0 : Hid (Things w (w.alloc (.cells #[.int .i64 P, .int .i64 K, .int .i64 q, .int .i64 id, .int .i64 1, .slice ad0 W0.length cap0] 26)) [Blk w.heap.size (.cells #[.int .i64 P, .int .i64 K, .int .i64 q, .int .i64 id, .int .i64 1, .slice ad0 W0.length cap0] 26 (0, 0))]) := (Things.start (Nw.start w)).blk (.cells #[.int .i64 P, .int .i64 K, .int .i64 q, .int .i64 id, .int .i64 1, .slice ad0 W0.length cap0] 26)
  have hc1 : CfgT w ⟨P, K, q, id, 1, ad0, cap0, W0⟩ := ⟨hc.p, hc.k, hc.q, hc.id, by show I64 1; decide, hc.W, hc.lW⟩
  have HM : Hid (∀ w1 ts, Things w w1 ts → Calls Tryz.prog 15 #[.agg #[.int .i64 P, .int .i64 K, .int .i64 q, .int .i64 id, .int .i64 1, .slice ad0 W0.length cap0]] w1 fun e w' => MadeR w ts ⟨P, K, q, id, 1, ad0, cap0, W0⟩ e w') := fun w1 ts h => made_any h gr hc1
  have GR := hid gr
  have hf0 := fun a b c d e f w => (field_ans a b c d e f w).1
  have hf3 := fun a b c d e f w => (field_ans a b c d e f w).2.1
  have hf4 := fun a b c d e f w => (field_ans a b c d e f w).2.2
  have hlW : W0.length ≤ 17592186044416 := hc.lW
  clear hc gr hc1
  go_enter Tryz.func4, Tryz.ntmps4
  go_wp2_with fail
  refine (HM.out _ _ G0.out).mono ?_
  rintro e w1 (⟨v1, v2, v3, E, hE, rfl, g1⟩ | ⟨nP, kk, x, a, m, ad, B, ob, cf, rfl, rfl, ek, eid, epk, hfit, hi, rfl, g1⟩)
  · have G1 := hid g1
    clear g1 G0 HM
    go_wp2_with fail
    refine (HA.out _ _ G1.out).mono ?_
    rintro e w2 ⟨rfl, g2⟩
    have G2 := hid g2
    clear g2 G1
    go_wp2_with fail
    refine (HA.out _ _ G2.out).mono ?_
    rintro e w3 ⟨rfl, g3⟩
    have G3 := hid g3
    clear g3 G2 HA
    go_wp2
    go_ret
    exact ⟨by simp, G3.out.nw⟩
  · subst ek
    have q1 := fit_may hfit
    have HMal : Hid (∀ w1 ts, Things w w1 (tnl x (newT (mN nP) W0 id 1 q) ts) → Calls Tryz.prog 16 #[.pointer (some ⟨x.T, 0, none⟩), .int .i64 n] w1 fun e w' => (∃ E cg, E ≠ 0 ∧ e = .returned (ans E 0 0 0 ⟨#[]⟩ cg) ∧ Nw w w') ∨ ∃ (c s j : Nat) (H : Hp) (D : List UInt8) (S' : TnS), ShA x.k id n c s j H D 2 S' ∧ e = .returned (ans 0 (hX id) (adI c s j) 0 ⟨#[]⟩ (unitI c)) ∧ Things w w' (tnl x S' ts)) := fun w1 ts g => sh_malloc g GR.out cf hlW q1 hi.1 hn
    generalize hts : (Lv ad W0 :: Blk B ob :: _) = ts at g1
    clear hts
    have G1 := hid g1
    clear g1 G0 HM hfit hi cf q1 hn
    go_wp2_with fail
    refine (HA.out _ _ G1.out).mono ?_
    rintro e w2 ⟨rfl, g2⟩
    have G2 := hid g2
    clear g2 G1
    by_cases hd : (200 : Int) < d.size
    · go_wp2_with fail
      refine (HA.out _ _ G2.out).mono ?_
      rintro e w3 ⟨rfl, g3⟩
      have G3 := hid g3
      clear g3 G2 HA
      go_wp2
      go_ret
      exact ⟨by simp, G3.out.nw⟩
    · have hd2 : (d.size : Int) ≤ 200 := by omega
      clear HA hd
      go_wp2_with fail
      refine (HMal.out _ _ G2.out).mono ?_
      rintro e w3 (⟨E, cg, hE, rfl, n3⟩ | ⟨c, s, j, H, D, S1, h1, rfl, g3⟩)
      · have N3 := hid n3
        clear n3 G2 HMal
        go_wp2
        go_ret
        exact ⟨by simp, N3.out.kept ((Fr.refl _ _).alloc _)⟩
      · have B3 := hid (tn_put g3 (.cells #[.int .i64 (0), .int .u64 (hX id), .int .i64 (adI c s j), .int .i64 (0), .string ⟨#[]⟩, .int .i64 (unitI c)] 38))
        have HS1 := hid h1
        clear g3 G2 HMal h1
        by_cases hr7 : R7 r
        · go_wp2_with fail
          refine (sh_restrict B3.out GR.out HS1.out hr7).mono ?_
          rintro e w4 ⟨S2, h2, rfl, g4⟩
          have B4 := hid (tn_put g4 (.cells #[.int .i64 (0), .int .u64 (hS id r), .int .i64 (0), .int .i64 (0), .string ⟨#[]⟩, .int .i64 (unitI c)] 38))
          have HS2 := hid h2
          have x0 := box_cellT (g4.cells 5 rfl) 1 rfl
          have y0 := box_cellT (B4.out.cells 5 rfl) 0 rfl
          have y1 := box_cellT (B4.out.cells 5 rfl) 1 rfl
          have y2 := box_cellT (B4.out.cells 6 rfl) 1 rfl
          clear h2 B3 HS1
          have HCC : Hid (∀ w1 S, Things w w1 (tnl x S (Blk w4.heap.size (.cells #[.int .i64 (0), .int .u64 (hS id r), .int .i64 (0), .int .i64 (0), .string ⟨#[]⟩, .int .i64 (unitI c)] 38 (0, 0)) :: Blk w3.heap.size (.cells #[.int .i64 (0), .int .u64 (hX id), .int .i64 (adI c s j), .int .i64 (0), .string ⟨#[]⟩, .int .i64 (unitI c)] 38 (0, 0)) :: ts)) → (w1.cell? ⟨w4.heap.size, 0, none⟩ = some (.int .i64 0) ∧ w1.cell? ⟨w4.heap.size, 1, none⟩ = some (.int .u64 (hS id r)) ∧ w1.cell? ⟨w3.heap.size, 1, none⟩ = some (.int .u64 (hX id)))) := fun w1 S g => ⟨box_cellT (g.cells 5 rfl) 0 rfl, box_cellT (g.cells 5 rfl) 1 rfl, box_cellT (g.cells 6 rfl) 1 rfl⟩
          clear y0 y1 y2
          obtain ⟨p0, p1, p2⟩ := HCC.out _ _ B4.out
          go_wp2_with fail
          clear p0 p1 p2 x0 g4
          have GD := hid (B4.out.kept ((Fr.refl _ _).drew))
          obtain ⟨y0, y1, y2⟩ := HCC.out _ _ GD.out
          clear B4
          go_region_held3 (fun w' => w'.cell? ⟨w4.heap.size, 0, none⟩ = some (.int .i64 0) ∧ w'.cell? ⟨w4.heap.size, 1, none⟩ = some (.int .u64 (hS id r)) ∧ w'.cell? ⟨w3.heap.size, 1, none⟩ = some (.int .u64 (hX id))) (first | exact ⟨by with_reducible assumption, by with_reducible assumption, by with_reducible assumption⟩ | go_keep) (first | (go_at_call 18; refine (sh_usable_x G5.out HS2.out).mono ?_; rintro e w6 ⟨rfl, g6⟩; have G6 := hid g6; obtain ⟨u0, u1, u2⟩ := HCC.out _ _ g6; clear g6) | (go_at_call 18; refine (sh_usable_s GD.out HS2.out).mono ?_; rintro e w5 ⟨rfl, g5⟩; have G5 := hid g5; obtain ⟨t0, t1, t2⟩ := HCC.out _ _ g5; clear g5))
          all_goals
            clear y0 y1 y2 t0 t1 t2 u0 u1 u2 GD G5
            obtain rfl | rfl | rfl | rfl | rfl | rfl | rfl : r = 1 ∨ r = 2 ∨ r = 3 ∨ r = 4 ∨ r = 5 ∨ r = 6 ∨ r = 7 := by unfold R7 at hr7; omega
            · skip
              have u1 := (HCC.out _ _ G6.out).2.1
              have u2 := (HCC.out _ _ G6.out).2.2
              clear HCC
              go_wp2_with fail
              refine (sh_write_no G6.out HS2.out (by decide) d).mono ?_
              rintro e w7 ⟨S3, h3, rfl, g7⟩
              have HS3 := hid h3
              have B7 := hid (tn_put g7 (.cells #[.int .i64 (5), .int .u64 (0), .int .i64 (0), .int .i64 (0), .string ⟨#[]⟩, .int .i64 (unitI c)] 38))
              clear h3 g7 G6 HS2 u1 u2
              have u1 := box_cellT (B7.out.cells 6 rfl) 1 rfl
              have u2 := box_cellT (B7.out.cells 7 rfl) 1 rfl
              go_wp2_with fail
              refine (sh_read B7.out HS3.out (by decide) HS3.out.hb.2 (shares_fs HS3.out.t8 HS3.out.r7 (by decide) (by decide))).mono ?_
              rintro e w8 ⟨S4, h4, he, g8⟩
              subst he
              have HS4 := hid h4
              have B8 := hid (tn_put g8 (.cells #[.int .i64 (0), .int .u64 (0), .int .i64 (0), .int .i64 (0), .string ⟨(D.take n.toNat).toArray⟩, .int .i64 (unitI c)] 38))
              clear h4 g8 B7 HS3 u1 u2
              have u1 := box_cellT (B8.out.cells 7 rfl) 1 rfl
              have u2 := box_cellT (B8.out.cells 8 rfl) 1 rfl
              go_wp2_with fail
              refine (sh_read B8.out HS4.out (by decide) HS4.out.hb.1 (shares_fx (by decide))).mono ?_
              rintro e w9 ⟨S5, h5, he, g9⟩
              subst he
              have HS5 := hid h5
              have G9 := hid g9
              clear h5 g9 B8 HS4 u1 u2
              have vw := box_cellT (G9.out.cells 6 rfl) 0 rfl
              have vr := box_cellT (G9.out.cells 5 rfl) 0 rfl
              have vd := box_cellT (G9.out.cells 5 rfl) 4 rfl
              have u1 := box_cellT (G9.out.cells 7 rfl) 1 rfl
              have u2 := box_cellT (G9.out.cells 8 rfl) 1 rfl
              go_wp2_with fail
              refine (sh_free_no G9.out HS5.out (by decide)).mono ?_
              rintro e w10 ⟨rfl, g10⟩
              have B10 := hid (tn_put g10 (.cells #[.int .i64 (5), .int .u64 (0), .int .i64 (0), .int .i64 (0), .string ⟨#[]⟩, .int .i64 (unitI c)] 38))
              have HH := hid HS5.out.hb
              clear g10 G9 vw vr vd u1 u2
              have u1 := box_cellT (B10.out.cells 8 rfl) 1 rfl
              have u2 := box_cellT (B10.out.cells 9 rfl) 1 rfl
              go_wp2_with fail
              refine (sh_free B10.out GR.out HS5.out HH.out.1 (shares_fx (by decide))).mono ?_
              rintro e w11 ⟨S6, h6, rfl, g11⟩
              have HS6 := hid h6
              clear h6 HS5
              have G11 := hid g11
              clear g11 B10 u1 u2
              have u1 := box_cellT (G11.out.cells 8 rfl) 1 rfl
              go_wp2_with fail
              refine (fd_usable G11.out HS6.out HH.out.2).mono ?_
              rintro e w12 ⟨rfl, g12⟩
              have G12 := hid g12
              have HCh := hid (n_charged g12)
              rw [HS6.out.eB] at HCh
              clear g12 G11 u1 HS6 HH
              go_wp2_with fail
              refine HCh.out.mono ?_
              rintro e w13 ⟨rfl, g13⟩
              have G13 := hid g13
              clear g13 G12 HCh
              go_wp2
              go_ret
              exact ⟨by simp, G13.out.nw⟩
            · by_cases hfits : (d.size : Int) ≤ n
              · skip
                have u1 := (HCC.out _ _ G6.out).2.1
                have u2 := (HCC.out _ _ G6.out).2.2
                clear HCC
                go_wp2_with fail
                refine (sh_write G6.out HS2.out (by decide) (by decide) hfits).mono ?_
                rintro e w7 ⟨S3, h3, rfl, g7⟩
                have HS3 := hid h3
                have B7 := hid (tn_put g7 (.cells #[.int .i64 (0), .int .u64 (0), .int .i64 (0), .int .i64 (0), .string ⟨#[]⟩, .int .i64 (unitI c)] 38))
                clear h3 g7 G6 HS2 u1 u2
                have u1 := box_cellT (B7.out.cells 6 rfl) 1 rfl
                have u2 := box_cellT (B7.out.cells 7 rfl) 1 rfl
                go_wp2_with fail
                refine (sh_read_no B7.out HS3.out (by decide)).mono ?_
                obtain ⟨dat, hdat, hle, hex⟩ := sh_all (D := D) (n := n) (d := d) hfits
                rintro e w8 ⟨S4, h4, he, g8⟩
                subst he
                have HS4 := hid h4
                have B8 := hid (tn_put g8 (.cells #[.int .i64 (5), .int .u64 (0), .int .i64 (0), .int .i64 (0), .string ⟨#[]⟩, .int .i64 (unitI c)] 38))
                clear h4 g8 B7 HS3 u1 u2
                have u1 := box_cellT (B8.out.cells 7 rfl) 1 rfl
                have u2 := box_cellT (B8.out.cells 8 rfl) 1 rfl
                go_wp2_with fail
                refine (sh_read B8.out HS4.out (by decide) HS4.out.hb.1 (shares_fx (by decide))).mono ?_
                rintro e w9 ⟨S5, h5, he, g9⟩
                rw [hdat] at he
                subst he
                have HS5 := hid h5
                have G9 := hid g9
                clear h5 g9 B8 HS4 u1 u2
                have vw := box_cellT (G9.out.cells 6 rfl) 0 rfl
                have vr := box_cellT (G9.out.cells 5 rfl) 0 rfl
                have vd := box_cellT (G9.out.cells 5 rfl) 4 rfl
                have u1 := box_cellT (G9.out.cells 7 rfl) 1 rfl
                have u2 := box_cellT (G9.out.cells 8 rfl) 1 rfl
                go_wp2_with fail
                refine (sh_free_no G9.out HS5.out (by decide)).mono ?_
                rintro e w10 ⟨rfl, g10⟩
                have B10 := hid (tn_put g10 (.cells #[.int .i64 (5), .int .u64 (0), .int .i64 (0), .int .i64 (0), .string ⟨#[]⟩, .int .i64 (unitI c)] 38))
                have HH := hid HS5.out.hb
                clear g10 G9 vw vr vd u1 u2
                have u1 := box_cellT (B10.out.cells 8 rfl) 1 rfl
                have u2 := box_cellT (B10.out.cells 9 rfl) 1 rfl
                go_wp2_with fail
                refine (sh_free B10.out GR.out HS5.out HH.out.1 (shares_fx (by decide))).mono ?_
                rintro e w11 ⟨S6, h6, rfl, g11⟩
                have HS6 := hid h6
                clear h6 HS5
                have G11 := hid g11
                clear g11 B10 u1 u2
                have u1 := box_cellT (G11.out.cells 8 rfl) 1 rfl
                go_wp2_with fail
                refine (fd_usable G11.out HS6.out HH.out.2).mono ?_
                rintro e w12 ⟨rfl, g12⟩
                have G12 := hid g12
                have HCh := hid (n_charged g12)
                rw [HS6.out.eB] at HCh
                clear g12 G11 u1 HS6 HH
                go_wp2_with fail
                refine HCh.out.mono ?_
                rintro e w13 ⟨rfl, g13⟩
                have G13 := hid g13
                clear g13 G12 HCh
                go_wp2
                go_ret
                exact ⟨by simp, G13.out.nw⟩
              · have hfits : n < d.size := by omega
                have u1 := (HCC.out _ _ G6.out).2.1
                have u2 := (HCC.out _ _ G6.out).2.2
                clear HCC
                go_wp2_with fail
                refine (sh_write_far G6.out HS2.out (by decide) hfits).mono ?_
                rintro e w7 ⟨S3, h3, rfl, g7⟩
                have HS3 := hid h3
                have B7 := hid (tn_put g7 (.cells #[.int .i64 (4), .int .u64 (0), .int .i64 (0), .int .i64 (0), .string ⟨#[]⟩, .int .i64 (unitI c)] 38))
                clear h3 g7 G6 HS2 u1 u2
                have u1 := box_cellT (B7.out.cells 6 rfl) 1 rfl
                have u2 := box_cellT (B7.out.cells 7 rfl) 1 rfl
                go_wp2_with fail
                refine (sh_read_no B7.out HS3.out (by decide)).mono ?_
                rintro e w8 ⟨S4, h4, he, g8⟩
                subst he
                have HS4 := hid h4
                have B8 := hid (tn_put g8 (.cells #[.int .i64 (5), .int .u64 (0), .int .i64 (0), .int .i64 (0), .string ⟨#[]⟩, .int .i64 (unitI c)] 38))
                clear h4 g8 B7 HS3 u1 u2
                have u1 := box_cellT (B8.out.cells 7 rfl) 1 rfl
                have u2 := box_cellT (B8.out.cells 8 rfl) 1 rfl
                go_wp2_with fail
                refine (sh_read B8.out HS4.out (by decide) HS4.out.hb.1 (shares_fx (by decide))).mono ?_
                rintro e w9 ⟨S5, h5, he, g9⟩
                subst he
                have HS5 := hid h5
                have G9 := hid g9
                clear h5 g9 B8 HS4 u1 u2
                have vw := box_cellT (G9.out.cells 6 rfl) 0 rfl
                have vr := box_cellT (G9.out.cells 5 rfl) 0 rfl
                have vd := box_cellT (G9.out.cells 5 rfl) 4 rfl
                have u1 := box_cellT (G9.out.cells 7 rfl) 1 rfl
                have u2 := box_cellT (G9.out.cells 8 rfl) 1 rfl
                go_wp2_with fail
                refine (sh_free_no G9.out HS5.out (by decide)).mono ?_
                rintro e w10 ⟨rfl, g10⟩
                have B10 := hid (tn_put g10 (.cells #[.int .i64 (5), .int .u64 (0), .int .i64 (0), .int .i64 (0), .string ⟨#[]⟩, .int .i64 (unitI c)] 38))
                have HH := hid HS5.out.hb
                clear g10 G9 vw vr vd u1 u2
                have u1 := box_cellT (B10.out.cells 8 rfl) 1 rfl
                have u2 := box_cellT (B10.out.cells 9 rfl) 1 rfl
                go_wp2_with fail
                refine (sh_free B10.out GR.out HS5.out HH.out.1 (shares_fx (by decide))).mono ?_
                rintro e w11 ⟨S6, h6, rfl, g11⟩
                have HS6 := hid h6
                clear h6 HS5
                have G11 := hid g11
                clear g11 B10 u1 u2
                have u1 := box_cellT (G11.out.cells 8 rfl) 1 rfl
                go_wp2_with fail
                refine (fd_usable G11.out HS6.out HH.out.2).mono ?_
                rintro e w12 ⟨rfl, g12⟩
                have G12 := hid g12
                have HCh := hid (n_charged g12)
                rw [HS6.out.eB] at HCh
                clear g12 G11 u1 HS6 HH
                go_wp2_with fail
                refine HCh.out.mono ?_
                rintro e w13 ⟨rfl, g13⟩
                have G13 := hid g13
                clear g13 G12 HCh
                go_wp2
                go_ret
                exact ⟨by simp, G13.out.nw⟩
            · by_cases hfits : (d.size : Int) ≤ n
              · skip
                have u1 := (HCC.out _ _ G6.out).2.1
                have u2 := (HCC.out _ _ G6.out).2.2
                clear HCC
                go_wp2_with fail
                refine (sh_write G6.out HS2.out (by decide) (by decide) hfits).mono ?_
                rintro e w7 ⟨S3, h3, rfl, g7⟩
                have HS3 := hid h3
                have B7 := hid (tn_put g7 (.cells #[.int .i64 (0), .int .u64 (0), .int .i64 (0), .int .i64 (0), .string ⟨#[]⟩, .int .i64 (unitI c)] 38))
                clear h3 g7 G6 HS2 u1 u2
                have u1 := box_cellT (B7.out.cells 6 rfl) 1 rfl
                have u2 := box_cellT (B7.out.cells 7 rfl) 1 rfl
                go_wp2_with fail
                refine (sh_read B7.out HS3.out (by decide) HS3.out.hb.2 (shares_fs HS3.out.t8 HS3.out.r7 (by decide) (by decide))).mono ?_
                obtain ⟨dat, hdat, hle, hex⟩ := sh_all (D := D) (n := n) (d := d) hfits
                rintro e w8 ⟨S4, h4, he, g8⟩
                rw [hdat] at he
                subst he
                have HS4 := hid h4
                have B8 := hid (tn_put g8 (.cells #[.int .i64 (0), .int .u64 (0), .int .i64 (0), .int .i64 (0), .string dat, .int .i64 (unitI c)] 38))
                clear h4 g8 B7 HS3 u1 u2
                have u1 := box_cellT (B8.out.cells 7 rfl) 1 rfl
                have u2 := box_cellT (B8.out.cells 8 rfl) 1 rfl
                go_wp2_with fail
                refine (sh_read B8.out HS4.out (by decide) HS4.out.hb.1 (shares_fx (by decide))).mono ?_
                rintro e w9 ⟨S5, h5, he, g9⟩
                rw [hdat] at he
                subst he
                have HS5 := hid h5
                have G9 := hid g9
                clear h5 g9 B8 HS4 u1 u2
                have vw := box_cellT (G9.out.cells 6 rfl) 0 rfl
                have vr := box_cellT (G9.out.cells 5 rfl) 0 rfl
                have vd := box_cellT (G9.out.cells 5 rfl) 4 rfl
                have u1 := box_cellT (G9.out.cells 7 rfl) 1 rfl
                have u2 := box_cellT (G9.out.cells 8 rfl) 1 rfl
                go_wp2_with fail
                refine (sh_free_no G9.out HS5.out (by decide)).mono ?_
                rintro e w10 ⟨rfl, g10⟩
                have B10 := hid (tn_put g10 (.cells #[.int .i64 (5), .int .u64 (0), .int .i64 (0), .int .i64 (0), .string ⟨#[]⟩, .int .i64 (unitI c)] 38))
                have HH := hid HS5.out.hb
                clear g10 G9 vw vr vd u1 u2
                have u1 := box_cellT (B10.out.cells 8 rfl) 1 rfl
                have u2 := box_cellT (B10.out.cells 9 rfl) 1 rfl
                go_wp2_with fail
                refine (sh_free B10.out GR.out HS5.out HH.out.1 (shares_fx (by decide))).mono ?_
                rintro e w11 ⟨S6, h6, rfl, g11⟩
                have HS6 := hid h6
                clear h6 HS5
                have G11 := hid g11
                clear g11 B10 u1 u2
                have u1 := box_cellT (G11.out.cells 8 rfl) 1 rfl
                go_wp2_with fail
                refine (fd_usable G11.out HS6.out HH.out.2).mono ?_
                rintro e w12 ⟨rfl, g12⟩
                have G12 := hid g12
                have HCh := hid (n_charged g12)
                rw [HS6.out.eB] at HCh
                clear g12 G11 u1 HS6 HH
                go_wp2_with fail
                refine HCh.out.mono ?_
                rintro e w13 ⟨rfl, g13⟩
                have G13 := hid g13
                clear g13 G12 HCh
                go_wp2
                go_ret
                exact ⟨by simp, G13.out.nw⟩
              · have hfits : n < d.size := by omega
                have u1 := (HCC.out _ _ G6.out).2.1
                have u2 := (HCC.out _ _ G6.out).2.2
                clear HCC
                go_wp2_with fail
                refine (sh_write_far G6.out HS2.out (by decide) hfits).mono ?_
                rintro e w7 ⟨S3, h3, rfl, g7⟩
                have HS3 := hid h3
                have B7 := hid (tn_put g7 (.cells #[.int .i64 (4), .int .u64 (0), .int .i64 (0), .int .i64 (0), .string ⟨#[]⟩, .int .i64 (unitI c)] 38))
                clear h3 g7 G6 HS2 u1 u2
                have u1 := box_cellT (B7.out.cells 6 rfl) 1 rfl
                have u2 := box_cellT (B7.out.cells 7 rfl) 1 rfl
                go_wp2_with fail
                refine (sh_read B7.out HS3.out (by decide) HS3.out.hb.2 (shares_fs HS3.out.t8 HS3.out.r7 (by decide) (by decide))).mono ?_
                rintro e w8 ⟨S4, h4, he, g8⟩
                subst he
                have HS4 := hid h4
                have B8 := hid (tn_put g8 (.cells #[.int .i64 (0), .int .u64 (0), .int .i64 (0), .int .i64 (0), .string ⟨(D.take n.toNat).toArray⟩, .int .i64 (unitI c)] 38))
                clear h4 g8 B7 HS3 u1 u2
                have u1 := box_cellT (B8.out.cells 7 rfl) 1 rfl
                have u2 := box_cellT (B8.out.cells 8 rfl) 1 rfl
                go_wp2_with fail
                refine (sh_read B8.out HS4.out (by decide) HS4.out.hb.1 (shares_fx (by decide))).mono ?_
                rintro e w9 ⟨S5, h5, he, g9⟩
                subst he
                have HS5 := hid h5
                have G9 := hid g9
                clear h5 g9 B8 HS4 u1 u2
                have vw := box_cellT (G9.out.cells 6 rfl) 0 rfl
                have vr := box_cellT (G9.out.cells 5 rfl) 0 rfl
                have vd := box_cellT (G9.out.cells 5 rfl) 4 rfl
                have u1 := box_cellT (G9.out.cells 7 rfl) 1 rfl
                have u2 := box_cellT (G9.out.cells 8 rfl) 1 rfl
                go_wp2_with fail
                refine (sh_free_no G9.out HS5.out (by decide)).mono ?_
                rintro e w10 ⟨rfl, g10⟩
                have B10 := hid (tn_put g10 (.cells #[.int .i64 (5), .int .u64 (0), .int .i64 (0), .int .i64 (0), .string ⟨#[]⟩, .int .i64 (unitI c)] 38))
                have HH := hid HS5.out.hb
                clear g10 G9 vw vr vd u1 u2
                have u1 := box_cellT (B10.out.cells 8 rfl) 1 rfl
                have u2 := box_cellT (B10.out.cells 9 rfl) 1 rfl
                go_wp2_with fail
                refine (sh_free B10.out GR.out HS5.out HH.out.1 (shares_fx (by decide))).mono ?_
                rintro e w11 ⟨S6, h6, rfl, g11⟩
                have HS6 := hid h6
                clear h6 HS5
                have G11 := hid g11
                clear g11 B10 u1 u2
                have u1 := box_cellT (G11.out.cells 8 rfl) 1 rfl
                go_wp2_with fail
                refine (fd_usable G11.out HS6.out HH.out.2).mono ?_
                rintro e w12 ⟨rfl, g12⟩
                have G12 := hid g12
                have HCh := hid (n_charged g12)
                rw [HS6.out.eB] at HCh
                clear g12 G11 u1 HS6 HH
                go_wp2_with fail
                refine HCh.out.mono ?_
                rintro e w13 ⟨rfl, g13⟩
                have G13 := hid g13
                clear g13 G12 HCh
                go_wp2
                go_ret
                exact ⟨by simp, G13.out.nw⟩
            · skip
              have u1 := (HCC.out _ _ G6.out).2.1
              have u2 := (HCC.out _ _ G6.out).2.2
              clear HCC
              go_wp2_with fail
              refine (sh_write_no G6.out HS2.out (by decide) d).mono ?_
              rintro e w7 ⟨S3, h3, rfl, g7⟩
              have HS3 := hid h3
              have B7 := hid (tn_put g7 (.cells #[.int .i64 (5), .int .u64 (0), .int .i64 (0), .int .i64 (0), .string ⟨#[]⟩, .int .i64 (unitI c)] 38))
              clear h3 g7 G6 HS2 u1 u2
              have u1 := box_cellT (B7.out.cells 6 rfl) 1 rfl
              have u2 := box_cellT (B7.out.cells 7 rfl) 1 rfl
              go_wp2_with fail
              refine (sh_read_no B7.out HS3.out (by decide)).mono ?_
              rintro e w8 ⟨S4, h4, he, g8⟩
              subst he
              have HS4 := hid h4
              have B8 := hid (tn_put g8 (.cells #[.int .i64 (5), .int .u64 (0), .int .i64 (0), .int .i64 (0), .string ⟨#[]⟩, .int .i64 (unitI c)] 38))
              clear h4 g8 B7 HS3 u1 u2
              have u1 := box_cellT (B8.out.cells 7 rfl) 1 rfl
              have u2 := box_cellT (B8.out.cells 8 rfl) 1 rfl
              go_wp2_with fail
              refine (sh_read B8.out HS4.out (by decide) HS4.out.hb.1 (shares_fx (by decide))).mono ?_
              rintro e w9 ⟨S5, h5, he, g9⟩
              subst he
              have HS5 := hid h5
              have G9 := hid g9
              clear h5 g9 B8 HS4 u1 u2
              have vw := box_cellT (G9.out.cells 6 rfl) 0 rfl
              have vr := box_cellT (G9.out.cells 5 rfl) 0 rfl
              have vd := box_cellT (G9.out.cells 5 rfl) 4 rfl
              have u1 := box_cellT (G9.out.cells 7 rfl) 1 rfl
              have u2 := box_cellT (G9.out.cells 8 rfl) 1 rfl
              go_wp2_with fail
              refine (sh_free G9.out GR.out HS5.out HS5.out.hb.2 (shares_fs HS5.out.t8 HS5.out.r7 (by decide) (by decide))).mono ?_
              rintro e w10 ⟨S6, h6, rfl, g10⟩
              have HS6 := hid h6
              clear h6
              have B10 := hid (tn_put g10 (.cells #[.int .i64 (0), .int .u64 (0), .int .i64 (0), .int .i64 (0), .string ⟨#[]⟩, .int .i64 (0)] 38))
              have HH := hid HS5.out.hb
              clear g10 G9 vw vr vd u1 u2 HS5
              have u1 := box_cellT (B10.out.cells 8 rfl) 1 rfl
              have u2 := box_cellT (B10.out.cells 9 rfl) 1 rfl
              go_wp2_with fail
              refine (fd_free B10.out HS6.out HH.out.1).mono ?_
              rintro e w11 ⟨rfl, g11⟩
              have G11 := hid g11
              clear g11 B10 u1 u2
              have u1 := box_cellT (G11.out.cells 8 rfl) 1 rfl
              go_wp2_with fail
              refine (fd_usable G11.out HS6.out HH.out.2).mono ?_
              rintro e w12 ⟨rfl, g12⟩
              have G12 := hid g12
              have HCh := hid (n_charged g12)
              rw [HS6.out.eB] at HCh
              clear g12 G11 u1 HS6 HH
              go_wp2_with fail
              refine HCh.out.mono ?_
              rintro e w13 ⟨rfl, g13⟩
              have G13 := hid g13
              clear g13 G12 HCh
              go_wp2
              go_ret
              exact ⟨by simp, G13.out.nw⟩
            · skip
              have u1 := (HCC.out _ _ G6.out).2.1
              have u2 := (HCC.out _ _ G6.out).2.2
              clear HCC
              go_wp2_with fail
              refine (sh_write_no G6.out HS2.out (by decide) d).mono ?_
              rintro e w7 ⟨S3, h3, rfl, g7⟩
              have HS3 := hid h3
              have B7 := hid (tn_put g7 (.cells #[.int .i64 (5), .int .u64 (0), .int .i64 (0), .int .i64 (0), .string ⟨#[]⟩, .int .i64 (unitI c)] 38))
              clear h3 g7 G6 HS2 u1 u2
              have u1 := box_cellT (B7.out.cells 6 rfl) 1 rfl
              have u2 := box_cellT (B7.out.cells 7 rfl) 1 rfl
              go_wp2_with fail
              refine (sh_read B7.out HS3.out (by decide) HS3.out.hb.2 (shares_fs HS3.out.t8 HS3.out.r7 (by decide) (by decide))).mono ?_
              rintro e w8 ⟨S4, h4, he, g8⟩
              subst he
              have HS4 := hid h4
              have B8 := hid (tn_put g8 (.cells #[.int .i64 (0), .int .u64 (0), .int .i64 (0), .int .i64 (0), .string ⟨(D.take n.toNat).toArray⟩, .int .i64 (unitI c)] 38))
              clear h4 g8 B7 HS3 u1 u2
              have u1 := box_cellT (B8.out.cells 7 rfl) 1 rfl
              have u2 := box_cellT (B8.out.cells 8 rfl) 1 rfl
              go_wp2_with fail
              refine (sh_read B8.out HS4.out (by decide) HS4.out.hb.1 (shares_fx (by decide))).mono ?_
              rintro e w9 ⟨S5, h5, he, g9⟩
              subst he
              have HS5 := hid h5
              have G9 := hid g9
              clear h5 g9 B8 HS4 u1 u2
              have vw := box_cellT (G9.out.cells 6 rfl) 0 rfl
              have vr := box_cellT (G9.out.cells 5 rfl) 0 rfl
              have vd := box_cellT (G9.out.cells 5 rfl) 4 rfl
              have u1 := box_cellT (G9.out.cells 7 rfl) 1 rfl
              have u2 := box_cellT (G9.out.cells 8 rfl) 1 rfl
              go_wp2_with fail
              refine (sh_free G9.out GR.out HS5.out HS5.out.hb.2 (shares_fs HS5.out.t8 HS5.out.r7 (by decide) (by decide))).mono ?_
              rintro e w10 ⟨S6, h6, rfl, g10⟩
              have HS6 := hid h6
              clear h6
              have B10 := hid (tn_put g10 (.cells #[.int .i64 (0), .int .u64 (0), .int .i64 (0), .int .i64 (0), .string ⟨#[]⟩, .int .i64 (0)] 38))
              have HH := hid HS5.out.hb
              clear g10 G9 vw vr vd u1 u2 HS5
              have u1 := box_cellT (B10.out.cells 8 rfl) 1 rfl
              have u2 := box_cellT (B10.out.cells 9 rfl) 1 rfl
              go_wp2_with fail
              refine (fd_free B10.out HS6.out HH.out.1).mono ?_
              rintro e w11 ⟨rfl, g11⟩
              have G11 := hid g11
              clear g11 B10 u1 u2
              have u1 := box_cellT (G11.out.cells 8 rfl) 1 rfl
              go_wp2_with fail
              refine (fd_usable G11.out HS6.out HH.out.2).mono ?_
              rintro e w12 ⟨rfl, g12⟩
              have G12 := hid g12
              have HCh := hid (n_charged g12)
              rw [HS6.out.eB] at HCh
              clear g12 G11 u1 HS6 HH
              go_wp2_with fail
              refine HCh.out.mono ?_
              rintro e w13 ⟨rfl, g13⟩
              have G13 := hid g13
              clear g13 G12 HCh
              go_wp2
              go_ret
              exact ⟨by simp, G13.out.nw⟩
            · by_cases hfits : (d.size : Int) ≤ n
              · skip
                have u1 := (HCC.out _ _ G6.out).2.1
                have u2 := (HCC.out _ _ G6.out).2.2
                clear HCC
                go_wp2_with fail
                refine (sh_write G6.out HS2.out (by decide) (by decide) hfits).mono ?_
                rintro e w7 ⟨S3, h3, rfl, g7⟩
                have HS3 := hid h3
                have B7 := hid (tn_put g7 (.cells #[.int .i64 (0), .int .u64 (0), .int .i64 (0), .int .i64 (0), .string ⟨#[]⟩, .int .i64 (unitI c)] 38))
                clear h3 g7 G6 HS2 u1 u2
                have u1 := box_cellT (B7.out.cells 6 rfl) 1 rfl
                have u2 := box_cellT (B7.out.cells 7 rfl) 1 rfl
                go_wp2_with fail
                refine (sh_read_no B7.out HS3.out (by decide)).mono ?_
                obtain ⟨dat, hdat, hle, hex⟩ := sh_all (D := D) (n := n) (d := d) hfits
                rintro e w8 ⟨S4, h4, he, g8⟩
                subst he
                have HS4 := hid h4
                have B8 := hid (tn_put g8 (.cells #[.int .i64 (5), .int .u64 (0), .int .i64 (0), .int .i64 (0), .string ⟨#[]⟩, .int .i64 (unitI c)] 38))
                clear h4 g8 B7 HS3 u1 u2
                have u1 := box_cellT (B8.out.cells 7 rfl) 1 rfl
                have u2 := box_cellT (B8.out.cells 8 rfl) 1 rfl
                go_wp2_with fail
                refine (sh_read B8.out HS4.out (by decide) HS4.out.hb.1 (shares_fx (by decide))).mono ?_
                rintro e w9 ⟨S5, h5, he, g9⟩
                rw [hdat] at he
                subst he
                have HS5 := hid h5
                have G9 := hid g9
                clear h5 g9 B8 HS4 u1 u2
                have vw := box_cellT (G9.out.cells 6 rfl) 0 rfl
                have vr := box_cellT (G9.out.cells 5 rfl) 0 rfl
                have vd := box_cellT (G9.out.cells 5 rfl) 4 rfl
                have u1 := box_cellT (G9.out.cells 7 rfl) 1 rfl
                have u2 := box_cellT (G9.out.cells 8 rfl) 1 rfl
                go_wp2_with fail
                refine (sh_free G9.out GR.out HS5.out HS5.out.hb.2 (shares_fs HS5.out.t8 HS5.out.r7 (by decide) (by decide))).mono ?_
                rintro e w10 ⟨S6, h6, rfl, g10⟩
                have HS6 := hid h6
                clear h6
                have B10 := hid (tn_put g10 (.cells #[.int .i64 (0), .int .u64 (0), .int .i64 (0), .int .i64 (0), .string ⟨#[]⟩, .int .i64 (0)] 38))
                have HH := hid HS5.out.hb
                clear g10 G9 vw vr vd u1 u2 HS5
                have u1 := box_cellT (B10.out.cells 8 rfl) 1 rfl
                have u2 := box_cellT (B10.out.cells 9 rfl) 1 rfl
                go_wp2_with fail
                refine (fd_free B10.out HS6.out HH.out.1).mono ?_
                rintro e w11 ⟨rfl, g11⟩
                have G11 := hid g11
                clear g11 B10 u1 u2
                have u1 := box_cellT (G11.out.cells 8 rfl) 1 rfl
                go_wp2_with fail
                refine (fd_usable G11.out HS6.out HH.out.2).mono ?_
                rintro e w12 ⟨rfl, g12⟩
                have G12 := hid g12
                have HCh := hid (n_charged g12)
                rw [HS6.out.eB] at HCh
                clear g12 G11 u1 HS6 HH
                go_wp2_with fail
                refine HCh.out.mono ?_
                rintro e w13 ⟨rfl, g13⟩
                have G13 := hid g13
                clear g13 G12 HCh
                go_wp2
                go_ret
                exact ⟨by simp, G13.out.nw⟩
              · have hfits : n < d.size := by omega
                have u1 := (HCC.out _ _ G6.out).2.1
                have u2 := (HCC.out _ _ G6.out).2.2
                clear HCC
                go_wp2_with fail
                refine (sh_write_far G6.out HS2.out (by decide) hfits).mono ?_
                rintro e w7 ⟨S3, h3, rfl, g7⟩
                have HS3 := hid h3
                have B7 := hid (tn_put g7 (.cells #[.int .i64 (4), .int .u64 (0), .int .i64 (0), .int .i64 (0), .string ⟨#[]⟩, .int .i64 (unitI c)] 38))
                clear h3 g7 G6 HS2 u1 u2
                have u1 := box_cellT (B7.out.cells 6 rfl) 1 rfl
                have u2 := box_cellT (B7.out.cells 7 rfl) 1 rfl
                go_wp2_with fail
                refine (sh_read_no B7.out HS3.out (by decide)).mono ?_
                rintro e w8 ⟨S4, h4, he, g8⟩
                subst he
                have HS4 := hid h4
                have B8 := hid (tn_put g8 (.cells #[.int .i64 (5), .int .u64 (0), .int .i64 (0), .int .i64 (0), .string ⟨#[]⟩, .int .i64 (unitI c)] 38))
                clear h4 g8 B7 HS3 u1 u2
                have u1 := box_cellT (B8.out.cells 7 rfl) 1 rfl
                have u2 := box_cellT (B8.out.cells 8 rfl) 1 rfl
                go_wp2_with fail
                refine (sh_read B8.out HS4.out (by decide) HS4.out.hb.1 (shares_fx (by decide))).mono ?_
                rintro e w9 ⟨S5, h5, he, g9⟩
                subst he
                have HS5 := hid h5
                have G9 := hid g9
                clear h5 g9 B8 HS4 u1 u2
                have vw := box_cellT (G9.out.cells 6 rfl) 0 rfl
                have vr := box_cellT (G9.out.cells 5 rfl) 0 rfl
                have vd := box_cellT (G9.out.cells 5 rfl) 4 rfl
                have u1 := box_cellT (G9.out.cells 7 rfl) 1 rfl
                have u2 := box_cellT (G9.out.cells 8 rfl) 1 rfl
                go_wp2_with fail
                refine (sh_free G9.out GR.out HS5.out HS5.out.hb.2 (shares_fs HS5.out.t8 HS5.out.r7 (by decide) (by decide))).mono ?_
                rintro e w10 ⟨S6, h6, rfl, g10⟩
                have HS6 := hid h6
                clear h6
                have B10 := hid (tn_put g10 (.cells #[.int .i64 (0), .int .u64 (0), .int .i64 (0), .int .i64 (0), .string ⟨#[]⟩, .int .i64 (0)] 38))
                have HH := hid HS5.out.hb
                clear g10 G9 vw vr vd u1 u2 HS5
                have u1 := box_cellT (B10.out.cells 8 rfl) 1 rfl
                have u2 := box_cellT (B10.out.cells 9 rfl) 1 rfl
                go_wp2_with fail
                refine (fd_free B10.out HS6.out HH.out.1).mono ?_
                rintro e w11 ⟨rfl, g11⟩
                have G11 := hid g11
                clear g11 B10 u1 u2
                have u1 := box_cellT (G11.out.cells 8 rfl) 1 rfl
                go_wp2_with fail
                refine (fd_usable G11.out HS6.out HH.out.2).mono ?_
                rintro e w12 ⟨rfl, g12⟩
                have G12 := hid g12
                have HCh := hid (n_charged g12)
                rw [HS6.out.eB] at HCh
                clear g12 G11 u1 HS6 HH
                go_wp2_with fail
                refine HCh.out.mono ?_
                rintro e w13 ⟨rfl, g13⟩
                have G13 := hid g13
                clear g13 G12 HCh
                go_wp2
                go_ret
                exact ⟨by simp, G13.out.nw⟩
            · by_cases hfits : (d.size : Int) ≤ n
              · skip
                have u1 := (HCC.out _ _ G6.out).2.1
                have u2 := (HCC.out _ _ G6.out).2.2
                clear HCC
                go_wp2_with fail
                refine (sh_write G6.out HS2.out (by decide) (by decide) hfits).mono ?_
                rintro e w7 ⟨S3, h3, rfl, g7⟩
                have HS3 := hid h3
                have B7 := hid (tn_put g7 (.cells #[.int .i64 (0), .int .u64 (0), .int .i64 (0), .int .i64 (0), .string ⟨#[]⟩, .int .i64 (unitI c)] 38))
                clear h3 g7 G6 HS2 u1 u2
                have u1 := box_cellT (B7.out.cells 6 rfl) 1 rfl
                have u2 := box_cellT (B7.out.cells 7 rfl) 1 rfl
                go_wp2_with fail
                refine (sh_read B7.out HS3.out (by decide) HS3.out.hb.2 (shares_fs HS3.out.t8 HS3.out.r7 (by decide) (by decide))).mono ?_
                obtain ⟨dat, hdat, hle, hex⟩ := sh_all (D := D) (n := n) (d := d) hfits
                rintro e w8 ⟨S4, h4, he, g8⟩
                rw [hdat] at he
                subst he
                have HS4 := hid h4
                have B8 := hid (tn_put g8 (.cells #[.int .i64 (0), .int .u64 (0), .int .i64 (0), .int .i64 (0), .string dat, .int .i64 (unitI c)] 38))
                clear h4 g8 B7 HS3 u1 u2
                have u1 := box_cellT (B8.out.cells 7 rfl) 1 rfl
                have u2 := box_cellT (B8.out.cells 8 rfl) 1 rfl
                go_wp2_with fail
                refine (sh_read B8.out HS4.out (by decide) HS4.out.hb.1 (shares_fx (by decide))).mono ?_
                rintro e w9 ⟨S5, h5, he, g9⟩
                rw [hdat] at he
                subst he
                have HS5 := hid h5
                have G9 := hid g9
                clear h5 g9 B8 HS4 u1 u2
                have vw := box_cellT (G9.out.cells 6 rfl) 0 rfl
                have vr := box_cellT (G9.out.cells 5 rfl) 0 rfl
                have vd := box_cellT (G9.out.cells 5 rfl) 4 rfl
                have u1 := box_cellT (G9.out.cells 7 rfl) 1 rfl
                have u2 := box_cellT (G9.out.cells 8 rfl) 1 rfl
                go_wp2_with fail
                refine (sh_free G9.out GR.out HS5.out HS5.out.hb.2 (shares_fs HS5.out.t8 HS5.out.r7 (by decide) (by decide))).mono ?_
                rintro e w10 ⟨S6, h6, rfl, g10⟩
                have HS6 := hid h6
                clear h6
                have B10 := hid (tn_put g10 (.cells #[.int .i64 (0), .int .u64 (0), .int .i64 (0), .int .i64 (0), .string ⟨#[]⟩, .int .i64 (0)] 38))
                have HH := hid HS5.out.hb
                clear g10 G9 vw vr vd u1 u2 HS5
                have u1 := box_cellT (B10.out.cells 8 rfl) 1 rfl
                have u2 := box_cellT (B10.out.cells 9 rfl) 1 rfl
                go_wp2_with fail
                refine (fd_free B10.out HS6.out HH.out.1).mono ?_
                rintro e w11 ⟨rfl, g11⟩
                have G11 := hid g11
                clear g11 B10 u1 u2
                have u1 := box_cellT (G11.out.cells 8 rfl) 1 rfl
                go_wp2_with fail
                refine (fd_usable G11.out HS6.out HH.out.2).mono ?_
                rintro e w12 ⟨rfl, g12⟩
                have G12 := hid g12
                have HCh := hid (n_charged g12)
                rw [HS6.out.eB] at HCh
                clear g12 G11 u1 HS6 HH
                go_wp2_with fail
                refine HCh.out.mono ?_
                rintro e w13 ⟨rfl, g13⟩
                have G13 := hid g13
                clear g13 G12 HCh
                go_wp2
                go_ret
                exact ⟨by simp, G13.out.nw⟩
              · have hfits : n < d.size := by omega
                have u1 := (HCC.out _ _ G6.out).2.1
                have u2 := (HCC.out _ _ G6.out).2.2
                clear HCC
                go_wp2_with fail
                refine (sh_write_far G6.out HS2.out (by decide) hfits).mono ?_
                rintro e w7 ⟨S3, h3, rfl, g7⟩
                have HS3 := hid h3
                have B7 := hid (tn_put g7 (.cells #[.int .i64 (4), .int .u64 (0), .int .i64 (0), .int .i64 (0), .string ⟨#[]⟩, .int .i64 (unitI c)] 38))
                clear h3 g7 G6 HS2 u1 u2
                have u1 := box_cellT (B7.out.cells 6 rfl) 1 rfl
                have u2 := box_cellT (B7.out.cells 7 rfl) 1 rfl
                go_wp2_with fail
                refine (sh_read B7.out HS3.out (by decide) HS3.out.hb.2 (shares_fs HS3.out.t8 HS3.out.r7 (by decide) (by decide))).mono ?_
                rintro e w8 ⟨S4, h4, he, g8⟩
                subst he
                have HS4 := hid h4
                have B8 := hid (tn_put g8 (.cells #[.int .i64 (0), .int .u64 (0), .int .i64 (0), .int .i64 (0), .string ⟨(D.take n.toNat).toArray⟩, .int .i64 (unitI c)] 38))
                clear h4 g8 B7 HS3 u1 u2
                have u1 := box_cellT (B8.out.cells 7 rfl) 1 rfl
                have u2 := box_cellT (B8.out.cells 8 rfl) 1 rfl
                go_wp2_with fail
                refine (sh_read B8.out HS4.out (by decide) HS4.out.hb.1 (shares_fx (by decide))).mono ?_
                rintro e w9 ⟨S5, h5, he, g9⟩
                subst he
                have HS5 := hid h5
                have G9 := hid g9
                clear h5 g9 B8 HS4 u1 u2
                have vw := box_cellT (G9.out.cells 6 rfl) 0 rfl
                have vr := box_cellT (G9.out.cells 5 rfl) 0 rfl
                have vd := box_cellT (G9.out.cells 5 rfl) 4 rfl
                have u1 := box_cellT (G9.out.cells 7 rfl) 1 rfl
                have u2 := box_cellT (G9.out.cells 8 rfl) 1 rfl
                go_wp2_with fail
                refine (sh_free G9.out GR.out HS5.out HS5.out.hb.2 (shares_fs HS5.out.t8 HS5.out.r7 (by decide) (by decide))).mono ?_
                rintro e w10 ⟨S6, h6, rfl, g10⟩
                have HS6 := hid h6
                clear h6
                have B10 := hid (tn_put g10 (.cells #[.int .i64 (0), .int .u64 (0), .int .i64 (0), .int .i64 (0), .string ⟨#[]⟩, .int .i64 (0)] 38))
                have HH := hid HS5.out.hb
                clear g10 G9 vw vr vd u1 u2 HS5
                have u1 := box_cellT (B10.out.cells 8 rfl) 1 rfl
                have u2 := box_cellT (B10.out.cells 9 rfl) 1 rfl
                go_wp2_with fail
                refine (fd_free B10.out HS6.out HH.out.1).mono ?_
                rintro e w11 ⟨rfl, g11⟩
                have G11 := hid g11
                clear g11 B10 u1 u2
                have u1 := box_cellT (G11.out.cells 8 rfl) 1 rfl
                go_wp2_with fail
                refine (fd_usable G11.out HS6.out HH.out.2).mono ?_
                rintro e w12 ⟨rfl, g12⟩
                have G12 := hid g12
                have HCh := hid (n_charged g12)
                rw [HS6.out.eB] at HCh
                clear g12 G11 u1 HS6 HH
                go_wp2_with fail
                refine HCh.out.mono ?_
                rintro e w13 ⟨rfl, g13⟩
                have G13 := hid g13
                clear g13 G12 HCh
                go_wp2
                go_ret
                exact ⟨by simp, G13.out.nw⟩
        · go_wp2_with fail
          refine (sh_restrict_no B3.out GR.out HS1.out hr7).mono ?_
          rintro e w4 ⟨rfl, n4⟩
          have N4 := hid n4
          clear n4 B3 HS1
          by_cases hr1 : r < 1
          · go_wp2
            go_ret
            exact ⟨by simp, N4.out.kept ((Fr.refl _ _).alloc _)⟩
          · have hr2 : 7 < r := by
              unfold R7 at hr7
              omega
            go_wp2
            go_ret
            exact ⟨by simp, N4.out.kept ((Fr.refl _ _).alloc _)⟩
theorem shares_walk {w : World} (gr : G17 w) {c : C18} (hc : CfgT w c) {n r : Int} (hn : I64 n) (hr : I64 r) (d : ByteArray) : Calls Tryz.prog 4 #[.agg c.cs, .int .i64 n, .int .i64 r, .string d] w fun e w' => e = .returned (.bool true) ∧ Fr (fun _ => False) w w' := by
  obtain ⟨P, K, q, id, se, ad0, cap0, W0⟩ := c
  exact (shares_walk' gr hc hn hr).mono fun e w' ⟨he, f⟩ => ⟨he, f.fr⟩
end Go.Proofs.YtioplfbkfokkfaaGreatDoor
