/-
  The law DemandEnough, walked: its loop.
-/
import Derived.Test.YtcfeeeloceeicaaDoorDmEnough
namespace Go.Proofs.YtcfeeeloceeicaaDoor
open Go.RowKit

theorem f_kind (n : Int) {w : World} (t : Tab w) : Calls Tryd.prog 19 #[.int .i64 n] w fun e w' => e = .returned (.int .i64 (ofI n)) ∧ Fr (fun _ => False) w w' := (r_of n (K.start t)).mono fun _ _ h => ⟨h.1, h.2.fr⟩
theorem f_charge (n : Int) {w : World} (t : Tab w) : Calls Tryd.prog 20 #[.int .i64 n] w fun e w' => e = .returned (.int .i64 (chargeI n)) ∧ Fr (fun _ => False) w w' := (r_charge n (K.start t)).mono fun _ _ h => ⟨h.1, h.2.fr⟩
theorem f_pagesof (c : Int) {w : World} (t : Tab w) : Calls Tryd.prog 21 #[.int .i64 c] w fun e w' => e = .returned (.int .i64 (pagesI c)) ∧ Fr (fun _ => False) w w' := (r_pages c (K.start t)).mono fun _ _ h => ⟨h.1, h.2.fr⟩
/-- Two cells that were laid stay, as long as nothing turns. -/
theorem box2 {w : World} {x y : Value} {T : TypeId} : ∀ w', Fr (fun _ => False) (w.alloc (.cells #[x, y] T)) w' → w'.cell? ⟨w.heap.size, 0, none⟩ = some x ∧ w'.cell? ⟨w.heap.size, 1, none⟩ = some y := fun w' f => by
  have hb := f.block w.heap.size (by simp) id
  rw [heap_alloc_new] at hb
  simp [World.cell?, hb]

/-- A cell of another block, behind a store. -/
theorem set_other {w : World} {g p b o : Nat} {v u : Value} (hne : b ≠ g) (h : w.cell? ⟨b, o, none⟩ = some v) : (w.setCell ⟨g, p, none⟩ u).drew.cell? ⟨b, o, none⟩ = some v :=
  (World.cell?_of_block (Below.heap_setCell w ⟨g, p, none⟩ u b hne)).trans h

/-- Where a round stands: what is there, and that all is as it should be. -/
def St5 (q : Int) (w0 : World) (h : Nat) (tv cv : Value) (w : World) : Prop := ∃ vs xs T n chg, cv = .int .i64 chg ∧ Hid (Inv q T xs n chg) ∧ Hid (Es w0 w h vs xs tv T n)

set_option maxRecDepth 40000 in
set_option maxHeartbeats 8000000 in
theorem enough_walk (q : Int) {ab ap : Option Addr} {cb cp : Nat} {bs : List (Int × Int)} {ps : List Int} (w0 : World) (hT : Tab w0) (hab : AsksAt w0 ab bs) (hap : BytesAt w0 ap ps) (hq : May q) (hb : bs.length ≤ 2000) (hp : ps.length ≤ 1000) :
    Calls Tryd.prog 5 #[.int .i64 q, .slice ab bs.length cb, .slice ap ps.length cp] w0 fun e w' => e = .returned (.bool true) ∧ Fr (fun _ => False) w0 w' := by
  have HK0 := hid (K.start hT)
  have H1 : Hid _ := fun w (k : K w0 w) => d_of q k
  have HA : Hid _ := fun w (k : K w0 w) => awake_any k
  have HAB := hid hab
  have HAP := hid hap
  have h00 := hT.pos
  have HQ := hid hq
  clear hT hab hap
  rw [(qu_yes hq).2] at H1
  clear hq
  generalize hx : fb (quA q) = x at *
  generalize hy : fb (takesI q) = y at *
  have HX := hid hx
  have HY := hid hy
  clear hx hy
  have d1 : decide ((2000 : Int) < bs.length) = false := by simp; omega
  have d2 : decide ((1000 : Int) < ps.length) = false := by simp; omega
  go_enter Tryd.func5, Tryd.ntmps5
  go_wp2_with fail
  refine (H1.out _ HK0.out).mono ?_
  rintro e w1 ⟨rfl, hk⟩
  have HK1 := hid hk
  clear hk HK0
  go_wp2_with fail
  refine (HA.out _ HK1.out).mono ?_
  rintro e w2 ⟨rfl, hk⟩
  have HK2 := hid hk
  clear hk HK1 H1 HA
  go_wp2
  have HS : Hid (Es w0 ((w2.alloc (.cells #[.slice none 0 0, .slice none 0 0, .slice none 0 0, .slice none 0 0, .slice none 0 0, .slice none 0 0, .slice none 0 0, .slice none 0 0, .slice none 0 0, .slice none 0 0, .slice none 0 0, .slice none 0 0, .slice none 0 0, .slice none 0 0, .slice none 0 0, .slice none 0 0, .slice none 0 0, .slice none 0 0, .slice none 0 0, .slice none 0 0, .slice none 0 0, .slice none 0 0, .slice none 0 0, .slice none 0 0] 38)).alloc (.cells #[.int .i64 0] 3)) w2.heap.size (fun _ => .slice none 0 0) (fun _ => []) (.slice none 0 0) [] 0) := Es.start HK2.out h00
  clear HK2 d1 d2
  generalize (w2.alloc (.cells #[.slice none 0 0, .slice none 0 0, .slice none 0 0, .slice none 0 0, .slice none 0 0, .slice none 0 0, .slice none 0 0, .slice none 0 0, .slice none 0 0, .slice none 0 0, .slice none 0 0, .slice none 0 0, .slice none 0 0, .slice none 0 0, .slice none 0 0, .slice none 0 0, .slice none 0 0, .slice none 0 0, .slice none 0 0, .slice none 0 0, .slice none 0 0, .slice none 0 0, .slice none 0 0, .slice none 0 0] 38)).alloc (.cells #[.int .i64 0] 3) = w3 at *
  generalize w2.heap.size = h at *
  go_loopg [10, 11, 46] bs.length (fun g tv cv i wr => ∃ j : Nat, j ≤ bs.length ∧ g = bs.length - j ∧ i = .int .i64 j ∧ St5 q w0 h tv cv wr)
  case atStart => exact ⟨0, by omega, rfl, rfl, _, _, _, _, _, rfl, Inv.start HQ.out, HS⟩
  case round =>
    obtain ⟨j, hj, hg, rfl, hst⟩ := hrel
    clear HS
    by_cases hlt : j < bs.length
    · obtain ⟨vs, xs, T, n, chg, rfl, HI, HE⟩ := hst
      obtain ⟨ba, oa, had, hba, hd1, hd2⟩ := HAB.out j hlt
      subst had
      have hold := HE.out.k.fr
      have hc1 := (World.cell?_of_block (a := ⟨ba, oa + j * 2, none⟩) (hold.block ba hba id)).trans hd1
      have hc2 := (World.cell?_of_block (a := ⟨ba, oa + j * 2 + 1, none⟩) (hold.block ba hba id)).trans hd2
      have hj1 : (0 : Int) ≤ (j : Int) := by omega
      have hj2 : (j : Int) < (bs.length : Int) := by omega
      clear hd1 hd2 hold hba
      generalize bs[j].1 = N at *
      generalize bs[j].2 = Kk at *
      go_upto_if 53 with fail
      have HE1 := hid (HE.out.on ((Fr.refl (fun _ => False) wr).alloc (.cells #[.int .i64 N, .int .i64 Kk] 41)))
      go_cut [10, 11] (fun tv cv wx => St5 q w0 h tv cv wx)
      case first =>
        have HBX : Hid (∀ w', Fr (fun _ => False) (wr.alloc (.cells #[.int .i64 N, .int .i64 Kk] 41)) w' → w'.cell? ⟨wr.heap.size, 0, none⟩ = some (.int .i64 N) ∧ w'.cell? ⟨wr.heap.size, 1, none⟩ = some (.int .i64 Kk)) := box2
        clear hc1 hc2 HE
        generalize wr.alloc (.cells #[.int .i64 N, .int .i64 Kk] 41) = w3 at *
        generalize wr.heap.size = Bx at *
        obtain ⟨hT5, hch0, hch1⟩ := HI.out.nums
        have hqm := HQ.out
        unfold May at hqm
        by_cases hN : 0 < N
        · obtain ⟨c1, _⟩ := HBX.out w3 (Fr.refl _ _)
          go_wp2_with fail
          refine (f_kind N HE1.out.k.tab).mono ?_
          rintro e w4 ⟨rfl, f4⟩
          have HE4 := hid (HE1.out.on f4)
          have HF4 := hid f4
          clear f4 c1 HE1
          by_cases hbig : 8192 < N
          · have ho : ofI N = -1 := (ofI_none N).2 (.inr hbig)
            rw [ho]
            clear ho hbig
            go_wp2
            go_roundg (bs.length - (j + 1))
            case measure => omega
            case rel => exact ⟨j + 1, by omega, rfl, by go_num, vs, xs, T, n, chg, rfl, HI, HE4⟩
          · have hor := ofI_range N (by omega) (by omega)
            have hcs := chargeI_some N (by omega) (by omega)
            have hur := unitI_range (ofI N) hor.1 hor.2
            have HC := hid fun w (t : Tab w) => f_charge N t
            rw [hcs] at HC
            obtain ⟨c4, _⟩ := HBX.out w4 HF4.out
            generalize hkd : ofI N = kd at *
            clear hkd hcs
            have hneg : decide (kd < 0) = false := by simp; omega
            by_cases hov : q < chg + unitI kd
            · generalize unitI kd = un at *
              have hov2 : decide (q < chg + un) = true := by simp; omega
              go_wp2_with fail
              refine (HC.out _ HE4.out.k.tab).mono ?_
              rintro e w5 ⟨rfl, f5⟩
              have HE5 := hid (HE4.out.on f5)
              clear f5 HE4 c4
              go_wp2
              go_roundg (bs.length - (j + 1))
              case measure => omega
              case rel => exact ⟨j + 1, by omega, rfl, by go_num, vs, xs, T, n, chg, rfl, HI, HE5⟩
            · have hov2 : decide (q < chg + unitI kd) = false := by simp; omega
              go_wp2_with fail
              refine (HC.out _ HE4.out.k.tab).mono ?_
              rintro e w5 ⟨rfl, f5⟩
              have HE5 := hid (HE4.out.on f5)
              have HF5 := hid (HF4.out.trans f5)
              clear f5 HE4 c4 HF4
              obtain ⟨c5, _⟩ := HBX.out w5 HF5.out
              go_wp2_with fail
              refine (HC.out _ HE5.out.k.tab).mono ?_
              rintro e w6 ⟨rfl, f6⟩
              have HE6 := hid (HE5.out.on f6)
              clear f6 HE5 c5 HF5 HBX HC
              by_cases hrun : 8 ≤ kd
              · have HI2 := hid (HI.out.run kd hrun hor.2 (by omega))
                have hpg := HI.out.pages
                have htk := takesI_range q
                have cD := HE6.out.cD
                have fD := HE6.out.fD
                have HPG := hid fun w (t : Tab w) => f_pagesof kd t
                have hpr : 0 ≤ pagesI kd ∧ pagesI kd ≤ 16 := by
                  unfold pagesI; repeat' split
                  all_goals omega
                generalize unitI kd = un at *
                generalize pagesI kd = pk at *
                have hlh := HE6.out.ltD
                go_wp2_with fail
                go_region_with (first | (go_at_call 21; refine (HPG.out _ (HE6.out.on (Fr.refl _ _).drew).k.tab).mono ?_; rintro e w7 ⟨rfl, f7⟩; have HE7 := hid (HE6.out.on ((Fr.refl (fun _ => False) w6).drew.trans f7)); have cD7 := HE7.out.cD; have fD7 := HE7.out.fD; clear f7))
                all_goals
                  have HE8 := hid (HE7.out.num (n + pk))
                  clear cD fD cD7 fD7 HE6 HE7 HPG
                  have HE9 := hid (HE8.out.on ((Fr.refl _ _).alloc (.cells #[.int .i64 kd, .int .i64 (-1)] 43)))
                  have HT9 := hid HE9.out.tr
                  have hn9 := one_news (kd, -1) (heap_alloc_new (w7.setCell ⟨h + 1, 0, none⟩ (.int .i64 (n + pk))) (.cells #[.int .i64 kd, .int .i64 (-1)] 43))
                  rw [show (w7.setCell ⟨h + 1, 0, none⟩ (.int .i64 (n + pk))).heap.size = w7.heap.size by simp [World.setCell]] at hn9
                  have HN9 := hid hn9
                  have HB9 : Hid (h + 2 ≤ ((w7.setCell ⟨h + 1, 0, none⟩ (.int .i64 (n + pk))).alloc (.cells #[.int .i64 kd, .int .i64 (-1)] 43)).heap.size) := HE9.out.ltD
                  clear hn9 HE8
                  go_wp2_with (at_builtin; refine wpList_tapp rfl (.tmp 79) (.tmp 82) rfl HT9.out [(kd, -1)] ⟨w7.heap.size, 0, none⟩ 1 rfl rfl HN9.out (.inr (by simp)) (by simp; omega) HB9.out ?_; intro g9 cap9 wA hoA hfA hsA; have HEA := hid (HE9.out.turn hfA hoA (by rcases hsA with e | e; exact .inl e.symm; exact .inr ⟨g9, rfl, e⟩)); clear hoA hfA hsA HE9)
                  go_meet
                  exact ⟨vs, xs, T ++ [(kd, -1)], n + pk, chg + un, rfl, HI2, HEA⟩
              · obtain ⟨c, rfl⟩ : ∃ c : Nat, kd = (c : Int) := ⟨kd.toNat, by omega⟩
                have hc8 : c < 8 := by omega
                have HI2 : Hid (∀ i ys n', Put (perI c) (xs c) n i ys n' → Inv q (T ++ [((c : Int), (i : Int))]) (upd xs c ys) n' (chg + unitI c)) := fun i ys n' k => HI.out.small c hc8 (by omega) k
                have hpg := HI.out.pages
                have htk := takesI_range q
                have hfew := (HI.out.few c hc8).2
                have hbs := byI_small c q
                obtain ⟨_, _, p1, p2, _⟩ := small_unit c (by omega) (by omega)
                have HPR := hid fun w (t : Tab w) => f_per c t
                have HPK : Hid (∀ w, K w0 w → Calls Tryd.prog 24 #[.slice ap ps.length cp, .int .i64 (j : Int)] w fun e w' => (∃ r : Int, e = .returned (.int .i64 r) ∧ 0 ≤ r ∧ r ≤ 255) ∧ w' = w) := fun w k => pick_any (HAP.out.fr k.fr) hp j (by omega)
                have HPUT : Hid (∀ w (e : Es w0 w h vs xs u10 T n) (k : Int), 0 ≤ k → Calls Tryd.prog 22 #[.pointer (some ⟨h, c, none⟩), .int .i64 (perI c), .int .i64 k, .pointer (some ⟨h + 1, 0, none⟩)] w fun e w' => ∃ (i : Nat) (v' : Value) (ys : List Int) (n' : Int), e = .returned (.int .i64 i) ∧ Put (perI c) (xs c) n i ys n' ∧ Es w0 w' h (upd vs c v') (upd xs c ys) u10 T n') := fun w e k hk => (put_any (e.pg c (by omega)) (perI c) k hk (by omega) (by omega) (by omega) (by omega) (by omega)).mono fun _ _ ⟨i, v', ys, n', h1, h2, h3, h4, h5⟩ => ⟨i, v', ys, n', h1, h2, e.put (by omega) h3 h4 h5⟩
                have hci : (0 : Int) ≤ (c : Int) := by omega
                have hci2 : (c : Int) < 24 := by omega
                have hci8 : ¬ (8 : Int) ≤ (c : Int) := by omega
                generalize perI (c : Int) = pe at *
                generalize unitI (c : Int) = un at *
                go_wp2_with fail
                go_region_held3 (fun _ => True) (trivial) (first | (go_at_call 23; refine (HPR.out _ (HE6.out.on (Fr.refl _ _).drew).k.tab).mono ?_; rintro e w7 ⟨rfl, f7⟩; have HE7 := hid (HE6.out.on ((Fr.refl (fun _ => False) w6).drew.trans f7)); clear f7) | (go_at_call 24; refine (HPK.out _ HE7.out.k).mono ?_; rintro e w8 ⟨⟨r, rfl, hr0, hr1⟩, hw⟩; obtain rfl := hw.symm; clear hw) | (go_at_call 22; refine (HPUT.out _ HE7.out r hr0).mono ?_; rintro e w9 ⟨i5, v5, ys5, n5, rfl, hP5, hE5⟩; have HI5 := hid (HI2.out i5 ys5 n5 hP5); have HEA := hid (hE5.on ((Fr.refl (fun _ => False) w9).alloc (.cells #[.int .i64 (c : Int), .int .i64 (i5 : Int)] 43))); have HNA := hid (one_news ((c : Int), (i5 : Int)) (heap_alloc_new w9 (.cells #[.int .i64 (c : Int), .int .i64 (i5 : Int)] 43))); have HBA := hid (show h + 2 ≤ _ from HEA.out.ltD); clear hE5 hP5) | ((refine step_tapp (by rfl) _ _ (by rfl) HEA.out.tr [((c : Int), (i5 : Int))] ⟨w9.heap.size, 0, none⟩ 1 (by rfl) (by rfl) HNA.out (.inr (by simp)) (by simp; omega) HBA.out ?_; intro gA capA wA hoA hfA hsA; have HEB := hid (HEA.out.turn hfA hoA (by rcases hsA with e | e; exact .inl e.symm; exact .inr ⟨gA, rfl, e⟩)); clear hoA hfA hsA)))
                go_wp2
                go_meet
                exact ⟨upd vs c v5, upd xs c ys5, T ++ [((c : Int), (i5 : Int))], n5, chg + un, rfl, HI5, HEB⟩
        · cases hTl : T with
          | nil =>
            subst hTl
            have htv : u10 = .slice none 0 0 ∨ ∃ g cap, u10 = .slice (some ⟨g, 0, none⟩) 0 cap := by
              rcases HE1.out.tr.2 with ⟨h1, _⟩ | ⟨g, cap, cur, h1, _⟩
              · exact .inl h1
              · exact .inr ⟨g, cap, h1⟩
            rcases htv with htv | ⟨g, cap, htv⟩
            all_goals
              subst htv
              go_wp2
              go_meet
              exact ⟨vs, xs, [], n, chg, rfl, HI, HE1⟩
          | cons b0 T0 =>
            have hTpos : 0 < T.length := by rw [hTl]; simp
            clear hTl
            obtain ⟨g5, cap5, htv, hgb, hgl⟩ := HE1.out.tr.form hTpos
            have hcap : T.length ≤ cap5 := by
              obtain ⟨ad, cp5, e5, h5⟩ := brow_shape HE1.out.tr
              rw [htv] at e5
              simp only [Value.slice.injEq] at e5
              omega
            subst htv
            obtain ⟨k, hk, hkl⟩ := modu Kk T.length (T.length : Int) rfl hTpos (by omega)
            obtain ⟨A5, b5, C5, hTe, hAk⟩ := split_at hkl
            subst hAk
            generalize hL : T.length = L at *
            have hLe : L = A5.length + 1 + C5.length := by rw [← hL, hTe]; simp; omega
            clear hL
            subst hTe
            obtain ⟨c1, c2⟩ := HBX.out w3 (Fr.refl _ _)
            obtain ⟨m1, m2⟩ := mid_cells HE1.out.tr
            have hwl : IntKind.u64.wrap (L : Int) = (L : Int) := by rw [IntKind.wrap_u64]; omega
            have hne : (L : Int) ≠ 0 := by omega
            have hLz : (0 : Int) < (L : Int) := by omega
            have hA0 : (0 : Int) ≤ (A5.length : Int) := by omega
            have hA1 : (A5.length : Int) < (L : Int) := by omega
            have hA2 : (A5.length : Int) ≤ (cap5 : Int) := by omega
            have hA3 : (A5.length : Int) + 1 ≤ (L : Int) := by omega
            have HLE := hid hLe
            clear hLe
            obtain ⟨bc, bp⟩ := b5
            simp only at m1 m2
            go_upto_region 21 with fail
            rw [hk]
            have HBB : Hid (∀ w', Fr (fun _ => False) (w3.alloc (.cells #[.int .i64 bc, .int .i64 bp] 43)) w' → w'.cell? ⟨w3.heap.size, 0, none⟩ = some (.int .i64 bc) ∧ w'.cell? ⟨w3.heap.size, 1, none⟩ = some (.int .i64 bp)) := box2
            have HE4 := hid (HE1.out.on ((Fr.refl (fun _ => False) w3).alloc (.cells #[.int .i64 bc, .int .i64 bp] 43)))
            have hBl : w3.heap.size < (w3.alloc (.cells #[.int .i64 bc, .int .i64 bp] 43)).heap.size := by simp
            have hBg : g5 < w3.heap.size := hgl
            have HRL : Hid (∀ c, c < 24 → ∀ k, (vs c).ownBlock = some k → k < w3.heap.size) := fun c hc k hk => ((HE1.out.rows c hc).lt k hk).2
            clear c1 c2 m1 m2 HE1 hk HBX hwl hne
            generalize w3.alloc (.cells #[.int .i64 bc, .int .i64 bp] 43) = w4 at *
            generalize w3.heap.size = Bb at *
            have e1 : ∀ w, (Instr.slice 39 (.slice (some ⟨g5, 0, none⟩) L cap5) none (some (.int .i64 (A5.length : Int))) none).run Tryd.prog w = .ok (.slice (some ⟨g5, 0 * 2, none⟩) A5.length cap5) w := fun w => run_slice_to g5 L cap5 A5.length (by omega)
            obtain ⟨ad2, cc2, e2, had2⟩ := run_slice_mid g5 cap5 A5 C5 L HLE.out hcap
            have hLC : A5.length + C5.length ≤ 4096 := by have := HLE.out; omega
            have hwa : IntKind.i64.wrap ((A5.length : Int) + 1) = (A5.length : Int) + 1 := by rw [IntKind.wrap_i64]; omega
            have HF5 := hid ((Fr.refl (fun k => w4.heap.size ≤ k) w4).drew.alloc (.cells #[] 43))
            have HB5 : Hid ((w4.drew.alloc (.cells #[] 43)).heap[w4.heap.size]? = some (.cells #[] 43 (0, 0))) := heap_alloc_new w4.drew _
            have HN1 := hid (piece_news (HE4.out.on (Fr.new HF5.out)).tr 0 A5 (pre_piece A5 C5 (bc, bp)))
            have hD4 := HE4.out.ltD
            have HN2 : Hid (∀ w, Fr (fun k => w4.heap.size ≤ k) w4 w → ∀ j u, (bcs C5)[j]? = some u → w.cell? (ad2.add j) = some u) := fun w f => by
              rcases had2 with hz | hz
              · intro j u hu; rw [hz] at hu; simp [bcs] at hu
              · rw [hz]; exact piece_news (HE4.out.on (Fr.new f)).tr (A5.length + 1) C5 (post_piece A5 C5 (bc, bp))
            clear had2
            go_region_held3 (fun _ => True) (trivial) (first | ((refine step_tapp0 (base := h + 2) (by rfl) _ _ (by rfl) HB5.out (by omega) A5 ⟨g5, 0 * 2, none⟩ cap5 (by rfl) (by rfl) HN1.out (by omega) ?_; intro g6 cap6 w6 ho6 hf6 hs6; have HO6 := hid ho6; have HF6 := hid (HF5.out.trans' hf6 (fun i _ e => by omega)); have hg6 : w4.heap.size ≤ g6 := (by rcases hs6 with e | e; exact Nat.le_of_eq e.symm; exact Nat.le_trans HF5.out.size e); have hb6 : h + 2 ≤ w6.heap.size := (by have := HF6.out.size; omega); clear ho6 hf6 hs6)) | ((refine step_tapp (by rfl) _ _ (by rfl) HO6.out C5 ad2 cc2 (by rfl) (by rfl) (HN2.out _ HF6.out) (.inl ⟨g6, _, _, rfl⟩) (by omega) hb6 ?_; intro g7 cap7 w7 ho7 hf7 hs7; have HO7 := hid ho7; have HF7 := hid (HF6.out.trans' hf7 (fun i _ e => by simp [Value.ownBlock] at e; omega)); have hg7 : w4.heap.size ≤ g7 := (by rcases hs7 with e | e; (simp [Value.ownBlock] at e; omega); (have := HF6.out.size; omega)); clear ho7 hf7 hs7)))
            have HE7 := hid (HE4.out.turn (T' := A5 ++ C5) ((Fr.new HF7.out).mono fun _ _ e => e.elim) HO7.out (.inr ⟨g7, rfl, hg7⟩))
            have HBB7 : Hid (∀ w', Fr (fun _ => False) w7 w' → w'.cell? ⟨Bb, 0, none⟩ = some (.int .i64 bc) ∧ w'.cell? ⟨Bb, 1, none⟩ = some (.int .i64 bp)) := fun w' f => HBB.out w' ((Fr.new HF7.out).trans f)
            have hsz7 := HF7.out.size
            clear HF5 HF6 HF7 HB5 HN1 HN2 HO6 HO7 HBB HE4 e1 e2 hb6 hg6
            obtain ⟨hkd0, hkd1⟩ := HI.out.kinds (bc, bp) (by simp)
            simp only at hkd0 hkd1
            have hur := unitI_range bc hkd0 hkd1
            have hpg := HI.out.pages
            have htk := takesI_range q
            obtain ⟨b7, _⟩ := HBB7.out w7 (Fr.refl _ _)
            have HUN := hid fun w (t : Tab w) => f_unit bc t
            by_cases hrun : 8 ≤ bc
            · have HI2 := hid (HI.out.giveRun (b := (bc, bp)) hrun)
              simp only at HI2
              have hpg2 := HI2.out.pages
              have hnm2 := HI2.out.nums
              have HPG := hid fun w (t : Tab w) => f_pagesof bc t
              have hpr : 0 ≤ pagesI bc ∧ pagesI bc ≤ 16 := by
                unfold pagesI; repeat' split
                all_goals omega
              generalize unitI bc = un at *
              generalize pagesI bc = pk at *
              have hwn : IntKind.i64.wrap (n - pk) = n - pk := by rw [IntKind.wrap_i64]; omega
              go_wp2_with fail
              refine (HUN.out _ HE7.out.k.tab).mono ?_
              rintro e w8 ⟨rfl, f8⟩
              have HE8 := hid (HE7.out.on f8)
              have HF8 := hid f8
              clear f8 b7 HE7
              obtain ⟨b8, _⟩ := HBB7.out w8 HF8.out
              have cD := HE8.out.cD
              have fD := HE8.out.fD
              go_wp2_with fail
              go_region_with (first | (go_at_call 21; refine (HPG.out _ (HE8.out.on (Fr.refl _ _).drew).k.tab).mono ?_; rintro e w9 ⟨rfl, f9⟩; have HE9 := hid (HE8.out.on ((Fr.refl (fun _ => False) w8).drew.trans f9)); have cD9 := HE9.out.cD; have fD9 := HE9.out.fD; obtain ⟨b9, _⟩ := HBB7.out w9 (HF8.out.trans ((Fr.refl (fun _ => False) w8).drew.trans f9)); clear f9))
              all_goals
                have HEB := hid (HE9.out.num (n - pk))
                clear cD fD cD9 fD9 b8 b9 HE8 HE9 HPG
                go_wp2
                go_meet
                exact ⟨vs, xs, A5 ++ C5, n - pk, chg - un, rfl, HI2, HEB⟩
            · obtain ⟨c, hbc⟩ : ∃ c : Nat, bc = (c : Int) := ⟨bc.toNat, by omega⟩
              have hrn := HI.out.runs (bc, bp) (by simp) (by simp; omega)
              simp only at hrn
              obtain ⟨p, hbp⟩ : ∃ p : Nat, bp = (p : Int) := ⟨bp.toNat, by omega⟩
              subst hbc
              subst hbp
              have hc8 : c < 8 := by omega
              obtain ⟨hpl, hx5, hI5⟩ := HI.out.giveSmall (c := c) (p := p) rfl hc8
              have HI2 := hid hI5
              have hnm2 := HI2.out.nums
              have hpg2 := HI2.out.pages
              obtain ⟨adc, capc, hvc⟩ := irow_shape (HE7.out.rows c (by omega))
              have HVC := hid hvc
              have hrw := HE7.out.rows c (by omega)
              rw [hvc] at hrw
              obtain ⟨gc, hadc, _, _, _, _⟩ := irow_at hrw p hpl
              subst hadc
              have hfew := (HI.out.few c hc8).2
              have hbs := byI_small c q
              have hxle : (xs c)[p] ≤ 65536 := by
                have h1 := HI.out.cnt c hc8 p hpl
                have h2 : (List.count ((c : Int), (p : Int)) (A5 ++ ((c : Int), (p : Int)) :: C5) : Int) ≤ ((A5 ++ ((c : Int), (p : Int)) :: C5).length : Int) := by
                  have := List.count_le_length (a := ((c : Int), (p : Int))) (l := A5 ++ ((c : Int), (p : Int)) :: C5); omega
                have h3 := HI.out.nums.1
                omega
              clear hrw hI5 hvc
              have hci : (0 : Int) ≤ (c : Int) := by omega
              have hci2 : (c : Int) < 24 := by omega
              have hci8 : ¬ (8 : Int) ≤ (c : Int) := by omega
              have hpi : (0 : Int) ≤ (p : Int) := by omega
              have hpi2 : (p : Int) < ((xs c).length : Int) := by omega
              generalize unitI (c : Int) = un at *
              go_wp2_with fail
              refine (HUN.out _ HE7.out.k.tab).mono ?_
              rintro e w8 ⟨rfl, f8⟩
              have HE8 := hid (HE7.out.on f8)
              have HF8 := hid f8
              clear f8 b7 HE7
              obtain ⟨b8, b81⟩ := HBB7.out w8 HF8.out
              have cA := HE8.out.cA c (by omega)
              rw [HVC.out] at cA
              have hrw := HE8.out.rows c (by omega)
              rw [HVC.out] at hrw
              obtain ⟨gc2, hgc2, _, _, hcx, hfx⟩ := irow_at hrw p hpl
              obtain rfl : gc = gc2 := by simpa using hgc2
              have HES := hid ((HE8.out.set (c := c) (by omega) HVC.out p hpl ((xs c)[p] - 1)).on (Fr.refl _ _).drew)
              have hgB : gc ≠ Bb := by have := HRL.out c (by omega) gc (by rw [HVC.out]; rfl); omega
              clear hrw hgc2
              generalize (xs c)[p] = xv at *
              have hwx : IntKind.i64.wrap (xv - 1) = xv - 1 := by rw [IntKind.wrap_i64]; omega
              go_wp2_with fail
              go_region
              have d0 := set_other (u := .int .i64 (xv - 1)) (p := p) (fun e => hgB e.symm) b8
              have d1 := set_other (u := .int .i64 (xv - 1)) (p := p) (fun e => hgB e.symm) b81
              clear b8 b81 cA hcx hfx HE8
              generalize (w8.setCell ⟨gc, p, none⟩ (.int .i64 (xv - 1))).drew = w9 at *
              have cA := HES.out.cA c (by omega)
              rw [HVC.out] at cA
              have hr9 := HES.out.rows c (by omega)
              rw [upd_at, HVC.out] at hr9
              have cx := hr9.cells (g := gc) rfl p (.int .i64 (xv - 1)) (by simp [ic, hpl])
              rw [add_plain, Nat.zero_add] at cx
              clear hr9
              by_cases hz : xv - 1 = 0
              · rw [if_pos hz] at HI2 hpg2
                have hwn : IntKind.i64.wrap (n - 1) = n - 1 := by rw [IntKind.wrap_i64]; omega
                rw [hz] at cx
                go_wp2_with fail
                go_quiet (fail)
                replace HES := hid (HES.out.on ((Fr.refl _ _).drewN nq))
                clear d0 d1 cA cx
                generalize w9.drewN nq = wA at *
                have cD := HES.out.cD
                have fD := HES.out.fD
                have HEB := hid (HES.out.num (n - 1))
                go_wp2
                go_meet
                exact ⟨vs, upd xs c ((xs c).set p (xv - 1)), A5 ++ C5, n - 1, chg - un, rfl, HI2, HEB⟩
              · rw [if_neg hz] at HI2 hpg2
                have hzb : (xv - 1 == 0) = false := by simpa using hz
                go_wp2_with fail
                go_quiet (fail)
                replace HES := hid (HES.out.on ((Fr.refl _ _).drewN nq))
                clear d0 d1 cA cx
                generalize w9.drewN nq = wA at *
                go_wp2
                go_meet
                exact ⟨vs, upd xs c ((xs c).set p (xv - 1)), A5 ++ C5, n, chg - un, rfl, HI2, HES⟩
      case rest =>
        clear hc1 hc2 HE HE1 HI
        obtain ⟨vs, xs, T, n, chg, rfl, HI, HE⟩ := hcut
        have hn := HI.out.pages
        have ht := takesI_range q
        have HPG := hid fun w => t_pages (rt_raw (qu_rt q)) (fb_int (takesI q) (by omega)) w
        rw [HX.out, HY.out] at HPG
        have HPG2 := hid fun w => (HPG.out w).mono fun _ _ h => And.intro h.1 (same_drew h.2)
        have hle : decide (takesI q < n) = false := by simp; omega
        have cD := HE.out.cD
        clear HPG
        generalize takesI q = tk at *
        go_wp2_with fail
        go_quiet (first | (go_at_call 17; refine Calls.quiet_of (HPG2.out _)))
        go_wp2_with fail
        replace HE := hid (HE.out.on ((Fr.refl _ _).drewN nq))
        clear cD hle HPG2
        generalize wc.drewN nq = wd at *
        go_loopg [160] 8 (fun g i wr => ∃ c : Nat, c ≤ 8 ∧ g = 8 - c ∧ i = .int .i64 c ∧ Hid (Es w0 wr h vs xs u10 T n))
        case atStart => exact ⟨0, by omega, rfl, rfl, HE⟩
        case round =>
          obtain ⟨c, hc, hgc, rfl, HE⟩ := hrel
          by_cases hlc : c < 8
          · have hcA := HE.out.cA c (by omega)
            obtain ⟨ad, cap, hv⟩ := irow_shape (HE.out.rows c (by omega))
            rw [hv] at hcA
            have HR := HE.out.rows c (by omega)
            rw [hv] at HR
            replace HR := hid HR
            have hfew := HI.out.few c hlc
            have hsm := byI_small c q
            have hc0 : (0 : Int) ≤ (c : Int) := by omega
            have hc1 : (c : Int) < 24 := by omega
            have hc8 : (c : Int) < 8 := by omega
            have hll := (live_range (xs c)).1
            have HV := hid hv
            clear hv
            generalize hxc : xs c = xc at *
            have HXC := hid hxc
            clear hxc
            go_wp2_with fail
            clear hcA
            go_loopg [19, 167] xc.length (fun g lv i wx => ∃ p : Nat, p ≤ xc.length ∧ g = xc.length - p ∧ i = .int .i64 p ∧ lv = .int .i64 (live (xc.take p)) ∧ wx = wr)
            case atStart => exact ⟨0, by omega, rfl, rfl, rfl, rfl⟩
            case round =>
              obtain ⟨p, hp5, hgp, rfl, rfl, hwx⟩ := hrel
              obtain rfl := hwx
              by_cases hlp : p < xc.length
              · obtain ⟨g5, had, _, _, hcp, _⟩ := irow_at HR.out p hlp
                subst had
                have hsn : live (xc.take (p + 1)) = live (xc.take p) + (if 0 < xc[p] then 1 else 0) := by
                  rw [List.take_add_one, List.getElem?_eq_getElem hlp, live_append]; simp [live]
                have hlr := live_range (xc.take p)
                have hlt5 : (xc.take p).length ≤ p := by simp; omega
                have HSN := hid hsn
                clear hsn
                have hp0 : (0 : Int) ≤ (p : Int) := by omega
                have hp1 : (p : Int) < (xc.length : Int) := by omega
                generalize live (xc.take p) = lv at *
                generalize xc[p] = xv at *
                by_cases hx0 : 0 < xv
                · rw [if_pos hx0] at HSN
                  go_wp2
                  go_roundg (xc.length - (p + 1))
                  case measure => omega
                  case rel => exact ⟨p + 1, by omega, rfl, by go_num, by rw [HSN.out], rfl⟩
                · rw [if_neg hx0] at HSN
                  go_wp2
                  go_roundg (xc.length - (p + 1))
                  case measure => omega
                  case rel => exact ⟨p + 1, by omega, rfl, by go_num, by rw [HSN.out, Int.add_zero], rfl⟩
              · obtain rfl : p = xc.length := by omega
                rw [List.take_length]
                have HB := hid (f_by c q HE.out.k.tab)
                have hle : decide (byI c q < live xc) = false := by simp; omega
                generalize live xc = lv at *
                generalize byI (c : Int) q = bv at *
                go_wp2_with fail
                refine HB.out.mono ?_
                rintro e we ⟨rfl, hf⟩
                replace HE := hid (HE.out.on hf)
                clear hf HB
                go_wp2
                go_roundg (8 - (c + 1))
                case measure => omega
                case rel => exact ⟨c + 1, by omega, rfl, by go_num, HE⟩
          · obtain rfl : c = 8 := by omega
            go_wp2
            go_roundg (bs.length - (j + 1))
            case measure => omega
            case rel => exact ⟨j + 1, by omega, rfl, by go_num, vs, xs, T, n, chg, rfl, HI, HE⟩
    · obtain rfl : j = bs.length := by omega
      obtain ⟨vs, xs, T, n, chg, rfl, HI, HE⟩ := hst
      go_wp2
      go_ret
      exact ⟨rfl, HE.out.k.fr⟩
end Go.Proofs.YtcfeeeloceeicaaDoor
