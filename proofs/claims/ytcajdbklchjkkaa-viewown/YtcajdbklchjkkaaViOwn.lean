/-
  No call touches a byte that isn't in a page of the table's: the walk of the law ViewOwn.
-/
import Derived.Test.YtcajdbklchjkkaaViLong
namespace Go.Proofs.Ytcajdbklchjkkaa
open Go.RowKit
open An

/-- A touch within a page of the table's. -/
def OwnS (T : Tb) (s : Sp) : Prop := ¬ tbH T (s.1 / 512) < 0 ∧ s.1 % 512 + s.2.1 ≤ 512 ∧ 0 ≤ s.1 ∧ s.1 ≤ 4096 ∧ 1 ≤ s.2.1
theorem own_tch {T : Tb} (ok : TbOk T) {x n : Int} (h : VwOk T 4096 x n) (b : Bool) : ∀ s ∈ tch (piL T x n) b, OwnS T s := fun s hs => by
  unfold tch at hs
  rw [List.mem_map] at hs
  obtain ⟨q, hq, rfl⟩ := hs
  obtain ⟨a1, _, _, a4⟩ := h.apt ok
  have b1 := a1.at_ q hq
  have b2 := a4 q hq
  exact ⟨b2.1, b2.2, b1.1, by show q.1 ≤ 4096; omega, b1.2.1⟩
/-- How things stand behind j calls. -/
def So (w wr : World) (a t : Nat) (T : Tb) (j : Nat) : Prop := ∃ bs ss, bs.length = 4096 ∧ ss.length ≤ 70 * j ∧ (∀ s ∈ ss, OwnS T s) ∧ Things w wr [Am 77 a bs ss, Tm t T]
def AnyI (e : Ending) : Prop := ∃ c : Int, e = .returned (.int .i64 c)
def AnySI (e : Ending) : Prop := ∃ (s : ByteArray) (c : Int), e = .returned (.tuple #[.string s, .int .i64 c])
section
variable {w wr : World} {a t : Nat} {T : Tb} {j : Nat}
theorem So.fr (h : So w wr a t T j) : Fr (fun _ => False) w wr := by obtain ⟨_, _, _, _, _, h⟩ := h; exact h.nw.fr
theorem So.kept {w' : World} (h : So w wr a t T j) (f : Fr (fun _ => False) wr w') : So w w' a t T j := by
  obtain ⟨bs, ss, h1, h2, h3, h4⟩ := h
  exact ⟨bs, ss, h1, h2, h3, h4.kept f⟩
theorem So.read (h : So w wr a t T j) (ok : TbOk T) (hj : j ≤ 100) {x n : Int} (hx : I64 x) (hn : I64 n) (hb : n ≤ 8192) : Calls Try.prog 20 #[.pointer (some ⟨a, 0, none⟩), .pointer (some ⟨t, 0, none⟩), .int .i64 x, .int .i64 n] wr fun e w' => AnySI e ∧ So w w' a t T (j + 1) := by
  obtain ⟨bs, ss, h1, h2, h3, h4⟩ := h
  refine (gv_read h4 0 1 (by decide) rfl rfl ok hx hn (by omega) (by omega)).mono fun e w' ⟨he, h5⟩ => ⟨⟨_, _, he⟩, bs, _, h1, ?_, ?_, h5⟩
  · have := (vrT_len ok bs.length ss x n).1; omega
  · rw [h1]
    unfold vrT
    split
    · rename_i hv
      intro s hs
      rcases List.mem_append.1 hs with e | e
      · exact h3 s e
      · exact own_tch ok hv _ s e
    · exact h3
theorem So.write (h : So w wr a t T j) (ok : TbOk T) (hj : j ≤ 100) {x : Int} (hx : I64 x) (s : ByteArray) (hb : s.size ≤ 16384) : Calls Try.prog 19 #[.pointer (some ⟨a, 0, none⟩), .pointer (some ⟨t, 0, none⟩), .int .i64 x, .string s] wr fun e w' => AnyI e ∧ So w w' a t T (j + 1) := by
  obtain ⟨bs, ss, h1, h2, h3, h4⟩ := h
  refine (gv_write h4 0 1 (by decide) rfl rfl ok hx s hb (by omega)).mono fun e w' ⟨he, h5⟩ => ⟨⟨_, he⟩, _, _, (vwB_length ok _ _ _).trans h1, ?_, ?_, h5⟩
  · have := (vrT_len ok bs.length ss x s.size).2; omega
  · rw [h1]
    unfold vwT
    split
    · rename_i hv
      intro s hs
      rcases List.mem_append.1 hs with e | e
      · exact h3 s e
      · exact own_tch ok hv _ s e
    · exact h3
theorem So.zero (h : So w wr a t T j) (ok : TbOk T) (hj : j ≤ 100) {x n : Int} (hx : I64 x) (hn : I64 n) (hb : n ≤ 8192) : Calls Try.prog 22 #[.pointer (some ⟨a, 0, none⟩), .pointer (some ⟨t, 0, none⟩), .int .i64 x, .int .i64 n] wr fun e w' => AnyI e ∧ So w w' a t T (j + 1) := by
  obtain ⟨bs, ss, h1, h2, h3, h4⟩ := h
  refine (gv_zero h4 0 1 (by decide) rfl rfl ok hx hn (by omega) (by omega)).mono fun e w' ⟨he, h5⟩ => ⟨⟨_, he⟩, _, _, (vzB_length ok _ _ _).trans h1, ?_, ?_, h5⟩
  · have := (vrT_len ok bs.length ss x n).2; omega
  · rw [h1]
    unfold vwT
    split
    · rename_i hv
      intro s hs
      rcases List.mem_append.1 hs with e | e
      · exact h3 s e
      · exact own_tch ok hv _ s e
    · exact h3
theorem So.copy (h : So w wr a t T j) (ok : TbOk T) (hj : j ≤ 100) {x y n : Int} (hx : I64 x) (hy : I64 y) (hn : I64 n) (hb : n ≤ 8192) : Calls Try.prog 23 #[.pointer (some ⟨a, 0, none⟩), .pointer (some ⟨t, 0, none⟩), .int .i64 x, .int .i64 y, .int .i64 n] wr fun e w' => AnyI e ∧ So w w' a t T (j + 1) := by
  obtain ⟨bs, ss, h1, h2, h3, h4⟩ := h
  refine (gv_copy h4 0 1 (by decide) rfl rfl ok hx hy hn (by omega) (by omega)).mono fun e w' ⟨he, h5⟩ => ⟨⟨_, he⟩, _, _, (vcB_length ok _ _ _ _).trans h1, ?_, ?_, h5⟩
  · have := vcT_len ok bs.length ss x y n; omega
  · rw [h1]
    unfold vcT
    split
    · rename_i hv
      intro s hs
      rcases List.mem_append.1 hs with e | e
      · rcases List.mem_append.1 e with e | e
        · exact h3 s e
        · exact own_tch ok hv.2 _ s e
      · exact own_tch ok hv.1 _ s e
    · exact h3
end
set_option maxRecDepth 20000 in
set_option maxHeartbeats 4000000 in
theorem own_walk (sv sc : Value) (w : World) (h : ∃ ad cap l, sv = .slice ad (List.length l) cap ∧ OpsAt w ad l ∧ l.length ≤ maxLen) (hc : ∃ ad cap l, sc = .slice ad (List.length l) cap ∧ OpsAtV w ad l ∧ l.length ≤ maxLen) : Calls Try.prog 5 #[sv, sc] w fun e w' => e = .returned (.bool true) ∧ Fr (fun _ => False) w w' := by
  obtain ⟨ad, cap, l, rfl, hops, hmax⟩ := h
  obtain ⟨ad2, cap2, l2, rfl, hops2, hmax2⟩ := hc
  have HA := hid awake_any
  have HO := hid hops
  have HO2 := hid hops2
  have HL : Hid (∀ w1, Fr (fun _ => False) w w1 → Calls Try.prog 12 #[.slice ad2 l2.length cap2] w1 fun e w' => LongR l2 e ∧ Fr (fun _ => False) w1 w') := fun w1 f => long_any (hops2.fr f) hmax2
  clear hops hops2 hmax2
  by_cases h1 : (60 : Int) < l.length
  · clear HO
    go_enter Try.func5, Try.ntmps5
    go_wp2_with fail
    refine (HA.out _).mono ?_
    rintro e w1 ⟨rfl, f1⟩
    have F1 := hid f1
    clear f1
    go_wp2_with fail
    refine (HA.out _).mono ?_
    rintro e w2 ⟨rfl, f2⟩
    have F2 := hid (F1.out.trans f2)
    clear f2 F1
    go_wp2
    go_ret
    exact ⟨by simp, F2.out⟩
  have d1 : decide ((60 : Int) < l.length) = false := decide_eq_false h1
  have HNA : Hid (∀ w1, Things w w1 [] → Calls Try.prog 9 #[.int .i64 4096] w1 fun e w' => ∃ a, e = .returned (.tuple #[.pointer (some ⟨a, 0, none⟩), .int .i64 0]) ∧ Things w w' [Am 77 a (List.replicate 4096 0) []]) := fun w1 h => ga_new h 4096 (by decide)
  have HNT : Hid (∀ w1 a, Things w w1 [Am 77 a (List.replicate 4096 0) []] → Calls Try.prog 8 #[] w1 fun e w' => ∃ t, e = .returned (.pointer (some ⟨t, 0, none⟩)) ∧ Things w w' [Am 77 a (List.replicate 4096 0) [], Tm t []]) := fun w1 a h => g_new h
  have T0 : Hid (Things w w []) := Things.start (Nw.start w)
  go_enter Try.func5, Try.ntmps5
  go_wp2_with fail
  refine (HA.out _).mono ?_
  rintro e w1 ⟨rfl, f1⟩
  have F1 := hid f1
  have T1 := hid (T0.out.kept f1)
  clear f1 T0
  go_wp2_with fail
  refine (HL.out _ F1.out).mono ?_
  rintro e w1' ⟨⟨b, rfl, hsh⟩, f2⟩
  have T1' := hid (T1.out.kept f2)
  have F2 := hid (F1.out.trans f2)
  clear f2 T1 HL F1
  cases b with
  | true =>
    clear hsh
    go_wp2_with fail
    refine (HA.out _).mono ?_
    rintro e w2 ⟨rfl, f3⟩
    have F3 := hid (F2.out.trans f3)
    clear f3 F2
    go_wp2
    go_ret
    exact ⟨by simp, F3.out⟩
  | false =>
  have HSH := hid (hsh rfl)
  have hl2 : l2.length ≤ 100 := HSH.out.1
  clear hsh HA F2
  go_wp2_with fail
  refine (HNA.out _ T1'.out).mono ?_
  rintro e w2 ⟨a, rfl, h2⟩
  have T2 := hid h2
  clear h2 T1' HNA
  go_wp2_with fail
  refine (HNT.out _ _ T2.out).mono ?_
  rintro e w3 ⟨t, rfl, h3⟩
  have T3 := hid h3
  clear h3 T2 HNT
  go_wp2
  have HM : Hid (∀ w0 T x y, TbOk T → I64 x → I64 y → Things w w0 [Am 77 a (List.replicate 4096 0) [], Tm t T] → Calls Try.prog 17 #[.pointer (some ⟨t, 0, none⟩), .int .i64 x, .int .i64 y] w0 fun e w' => e = .returned (.int .i64 (tbME T x y)) ∧ Things w w' [Am 77 a (List.replicate 4096 0) [], Tm t (tbM T x y)]) := fun w0 T x y ok hx hy h => g_map h 1 rfl ok hx hy
  go_loopw [33] (fun i wr => ∃ (j : Nat) (T : Tb), j ≤ l.length ∧ i = .int .i64 j ∧ Hid (TbOk T) ∧ Hid (Things w wr [Am 77 a (List.replicate 4096 0) [], Tm t T])) (fun i _ => l.length - (intOf i).toNat)
  case atStart => exact ⟨0, [], by omega, rfl, TbOk.none, T3⟩
  case round =>
    obtain ⟨j, T, hj, rfl, OK, T3⟩ := hrel
    by_cases hlt : j < l.length
    · obtain ⟨bb, off, rfl, hbb, hc1, hc2, hc3, hB⟩ := HO.out.fr T3.out.nw.fr j hlt
      generalize hk : l[j] = o at hc1 hc2 hc3 hB
      obtain ⟨kind, x, y⟩ := o
      simp only at hc1 hc2 hc3 hB
      have T4 := hid (T3.out.kept ((Fr.refl _ _).alloc (.cells #[.int .i64 kind, .int .i64 x, .int .i64 y] 56)))
      have HC := hid fun w0 h => HM.out w0 T x y OK.out hB.2.1 hB.2.2 h
      have OK2 := hid (OK.out.map x y)
      clear hk HO T3 hB HM OK
      generalize tbM T x y = T2 at *
      generalize tbME T x y = me at *
      go_wp2_with fail
      refine (HC.out _ T4.out).mono ?_
      rintro e w5 ⟨rfl, h5⟩
      have T5 := hid h5
      clear h5 T4 HC
      go_wp2
      go_roundw
      case rel => exact ⟨j + 1, T2, by omega, by go_num, OK2, T5⟩
      case measure => simp [intOf]; omega
    · obtain rfl : l.length = j := by omega
      clear HO HM
      have ok := OK.out
      have TS : Hid (So w _ a t T 0) := ⟨_, _, List.length_replicate, by simp, fun s hs => by simp at hs, T3.out⟩
      clear T3 hlt d1 h1
      go_wp2
      go_loopw [46] (fun i wr => ∃ j : Nat, j ≤ l2.length ∧ i = .int .i64 j ∧ Hid (So w wr a t T j)) (fun i _ => l2.length - (intOf i).toNat)
      case atStart => exact ⟨0, by omega, rfl, TS⟩
      case round =>
        obtain ⟨j, hj, rfl, T3⟩ := hrel
        clear TS
        by_cases hlt : j < l2.length
        · obtain ⟨bb, off, rfl, hbb, hc1, hc2, hc3, hc4, hc5, hB⟩ := HO2.out.fr T3.out.fr j hlt
          generalize hk : l2[j] = o at hc1 hc2 hc3 hc4 hc5 hB
          obtain ⟨kd, x, y, z, s⟩ := o
          simp only at hc1 hc2 hc3 hc4 hc5 hB
          have HS : Hid (s.size ≤ 16384) := by have := HSH.out.2 j hlt; rw [hk] at this; exact this
          have T4 := hid (T3.out.kept ((Fr.refl _ _).alloc (.cells #[.int .i64 kd, .int .i64 x, .int .i64 y, .int .i64 z, .string s] 43)))
          clear HO2 T3 HSH
          by_cases e1 : kd = 1
          · subst e1
            obtain ⟨m, hm⟩ : ∃ m : Int, m = min y 8192 := ⟨_, rfl⟩
            have d5 := min_is Try.prog y 8192 m hm
            have hm8 : m ≤ 8192 := by omega
            have HMI : Hid (I64 m) := by have := hB.2.2.1; show _ ∧ _; omega
            clear hm
            have HC := hid fun w0 (h : So w w0 a t T j) => So.read (x := x) (n := m) h OK.out (by omega) hB.2.1 HMI.out hm8
            clear hk HS hB
            go_wp2_with fail
            refine (HC.out _ T4.out).mono ?_
            rintro e w5 ⟨⟨s2, c2, rfl⟩, h5⟩
            have T5 := hid h5
            clear h5 T4 HC
            go_wp2
            go_roundw
            case rel => exact ⟨j + 1, by omega, by go_num, T5⟩
            case measure => simp [intOf]; omega
          by_cases e2 : kd = 2
          · subst e2
            clear e1
            have HC := hid fun w0 (h : So w w0 a t T j) => So.write (x := x) h OK.out (by omega) hB.2.1 s (by have := HS.out; omega)
            clear hk HS hB
            go_wp2_with fail
            refine (HC.out _ T4.out).mono ?_
            rintro e w5 ⟨⟨c2, rfl⟩, h5⟩
            have T5 := hid h5
            clear h5 T4 HC
            go_wp2
            go_roundw
            case rel => exact ⟨j + 1, by omega, by go_num, T5⟩
            case measure => simp [intOf]; omega
          by_cases e3 : kd = 3
          · subst e3
            clear e1 e2
            obtain ⟨m, hm⟩ : ∃ m : Int, m = min y 8192 := ⟨_, rfl⟩
            have d5 := min_is Try.prog y 8192 m hm
            have hm8 : m ≤ 8192 := by omega
            have HMI : Hid (I64 m) := by have := hB.2.2.1; show _ ∧ _; omega
            clear hm
            have HC := hid fun w0 (h : So w w0 a t T j) => So.zero (x := x) (n := m) h OK.out (by omega) hB.2.1 HMI.out hm8
            clear hk HS hB
            go_wp2_with fail
            refine (HC.out _ T4.out).mono ?_
            rintro e w5 ⟨⟨c2, rfl⟩, h5⟩
            have T5 := hid h5
            clear h5 T4 HC
            go_wp2
            go_roundw
            case rel => exact ⟨j + 1, by omega, by go_num, T5⟩
            case measure => simp [intOf]; omega
          have n1 : (kd == 1) = false := by simpa using e1
          have n2 : (kd == 2) = false := by simpa using e2
          have n3 : (kd == 3) = false := by simpa using e3
          clear e1 e2 e3
          obtain ⟨m, hm⟩ : ∃ m : Int, m = min z 8192 := ⟨_, rfl⟩
          have d5 := min_is Try.prog z 8192 m hm
          have hm8 : m ≤ 8192 := by omega
          have HMI : Hid (I64 m) := by have := hB.2.2.2.1; show _ ∧ _; omega
          clear hm
          have HC := hid fun w0 (h : So w w0 a t T j) => So.copy (x := x) (y := y) (n := m) h OK.out (by omega) hB.2.1 hB.2.2.1 HMI.out hm8
          clear hk HS hB
          go_wp2_with fail
          refine (HC.out _ T4.out).mono ?_
          rintro e w5 ⟨⟨c2, rfl⟩, h5⟩
          have T5 := hid h5
          clear h5 T4 HC
          go_wp2
          go_roundw
          case rel => exact ⟨j + 1, by omega, by go_num, T5⟩
          case measure => simp [intOf]; omega
        · obtain rfl : l2.length = j := by omega
          clear HO2 HSH hlt
          obtain ⟨bs, ss, hbs, hss, hown, h4⟩ := T3.out
          have T4 := hid h4
          have HTO := hid (ga_touched T4.out 0 rfl (by omega))
          have HOW := hid hown
          clear h4 hown T3 hbs
          go_wp2_with fail
          refine HTO.out.mono ?_
          rintro e w5 ⟨ad3, cap3, rfl, h5⟩
          have T5 : Hid (Things w w5 [Am 77 a bs ss, Tm t T, Sv ad3 ss]) := h5
          clear h5 T4 HTO
          go_wp2
          have HH : Hid (∀ w0 p B ob, I64 p → Things w w0 [Am 77 a bs ss, Tm t T, Sv ad3 ss, Blk B ob] → Calls Try.prog 24 #[.pointer (some ⟨t, 0, none⟩), .int .i64 p] w0 fun e w' => e = .returned (.int .i64 (tbH T p)) ∧ Things w w' [Am 77 a bs ss, Tm t T, Sv ad3 ss, Blk B ob]) := fun w0 p B ob hp h => g_holder h 1 rfl OK.out hp
          clear ok
          go_loopw [95] (fun i wr => ∃ j : Nat, j ≤ ss.length ∧ i = .int .i64 j ∧ Hid (Things w wr [Am 77 a bs ss, Tm t T, Sv ad3 ss])) (fun i _ => ss.length - (intOf i).toNat)
          case atStart => exact ⟨0, by omega, rfl, T5⟩
          case round =>
            obtain ⟨j, hj, rfl, T6⟩ := hrel
            clear T5
            by_cases hlt : j < ss.length
            · obtain ⟨bb, off, rfl, hbb, hc1, hc2, hc3⟩ := T6.out.sps 2 rfl j hlt
              have hw := HOW.out ss[j] (List.getElem_mem hlt)
              generalize ss[j] = s at *
              obtain ⟨s1, s2, s3⟩ := s
              simp only [OwnS] at hc1 hc2 hc3 hw
              obtain ⟨g1, g2, g3, g4, g5⟩ := hw
              have T7 : Hid (Things w _ [Am 77 a bs ss, Tm t T, Sv _ ss, Blk wr.heap.size (.cells #[.int .i64 s1, .int .i64 s2, .bool s3] 65 (0, 0))]) := T6.out.blk (.cells #[.int .i64 s1, .int .i64 s2, .bool s3] 65 (0, 0))
              have HC := hid fun w0 B ob h => HH.out w0 (s1 / 512) B ob ⟨by omega, by omega⟩ h
              have q1 := Int.tdiv_eq_ediv_of_nonneg (b := 512) g3
              have q2 := Int.tmod_eq_emod_of_nonneg (b := 512) g3
              have q3 : IntKind.i64.wrap (s1 / 512) = s1 / 512 := by rw [IntKind.wrap_i64]; omega
              have q4 : IntKind.i64.wrap (s1 % 512) = s1 % 512 := by rw [IntKind.wrap_i64]; omega
              have q5 : IntKind.i64.wrap (s1 % 512 + s2) = s1 % 512 + s2 := by rw [IntKind.wrap_i64]; omega
              clear HH T6 HOW
              generalize tbH T (s1 / 512) = hq at *
              generalize s1 / 512 = pq at *
              generalize s1 % 512 = rq at *
              go_wp2_with fail
              refine (HC.out _ _ _ T7.out).mono ?_
              rintro e w7 ⟨rfl, h7⟩
              have hcs := h7.cells 3 rfl
              have v0 : w7.cell? ⟨wr.heap.size, 0, none⟩ = some (.int .i64 s1) := by simp [World.cell?, hcs]
              have v1 : w7.cell? ⟨wr.heap.size, 1, none⟩ = some (.int .i64 s2) := by simp [World.cell?, hcs]
              have T8 := hid (Things.less (ts := [Am 77 a bs ss, Tm t T, Sv _ ss]) h7)
              clear h7 T7 HC hcs
              go_wp2
              go_roundw
              case rel => exact ⟨j + 1, by omega, by go_num, T8⟩
              case measure => simp [intOf]; omega
            · obtain rfl : ss.length = j := by omega
              go_wp2
              go_ret
              exact ⟨by simp, T6.out.nw.fr⟩
end Go.Proofs.Ytcajdbklchjkkaa
