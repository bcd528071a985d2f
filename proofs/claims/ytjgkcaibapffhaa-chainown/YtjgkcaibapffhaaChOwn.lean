/-
  Nothing but the first words of a chain's own blocks is ever touched: the walk of the law ChainOwn.
-/
import Derived.Test.YtjgkcaibapffhaaChTools
namespace Go.Proofs.Ytjgkcaibapffhaa
open Go.RowKit
open An

/-- Behind so many calls: the chain's blocks lie where they lay, and just their first words were touched. -/
structure OwnI (k : Ck) (U Pn N : Nat) (bs : List UInt8) (ss : List Sp) (j : Nat) : Prop where
  b : k.base = 32
  u : k.unit = U
  p : k.per = Pn
  ok : k.Ok bs.length
  n : bs.length = N
  s : ss.length ≤ 64 * j
  t : ∀ s ∈ ss, ∃ x, x < Pn ∧ s.1 = ((32 + x * U : Nat) : Int) ∧ s.2.1 = 8
section
variable {k : Ck} {U Pn N j : Nat} {bs : List UInt8} {ss : List Sp}
theorem OwnI.push (h : OwnI k U Pn N bs ss j) (x : Int) : OwnI (puS k x) U Pn N (puB k bs x) (puT k ss x) (j + 1) := by
  have hl := puB_len h.ok x
  have ht := puT_len (k := k) (ss := ss) x
  refine ⟨?_, ?_, ?_, by rw [hl]; exact puS_ok h.ok x, hl.trans h.n, by have := h.s; omega, fun s hs => ?_⟩
  · unfold puS; split <;> exact h.b
  · unfold puS; split <;> exact h.u
  · unfold puS; split <;> exact h.p
  · unfold puT at hs
    by_cases hx : k.Has x
    · rw [if_pos hx, List.mem_append, List.mem_singleton] at hs
      rcases hs with hs | rfl
      · exact h.t s hs
      · exact ⟨x.toNat, by have := h.p; omega, by unfold Ck.pos; rw [h.b, h.u], rfl⟩
    · rw [if_neg hx] at hs; exact h.t s hs
theorem OwnI.pop (h : OwnI k U Pn N bs ss j) : OwnI (poS k bs) U Pn N (poB k bs) (poT k bs ss) (j + 1) := by
  have hl := poB_len h.ok
  have ht := poT_len (k := k) (bs := bs) (ss := ss)
  refine ⟨?_, ?_, ?_, by rw [hl]; exact poS_ok h.ok, hl.trans h.n, by have := h.s; omega, fun s hs => ?_⟩
  · unfold poS; split <;> exact h.b
  · unfold poS; split <;> exact h.u
  · unfold poS; split <;> exact h.p
  · by_cases h0 : k.hd = 0
    · unfold poT at hs; rw [if_pos h0] at hs; exact h.t s hs
    · have htop : (k.top : Int) = ((32 + (k.hd - 1) * U : Nat) : Int) := by unfold Ck.top Ck.pos; rw [h.b, h.u]
      have hlt : k.hd - 1 < Pn := by have := h.ok.hd; have := h.p; omega
      unfold poT at hs
      rw [if_neg h0] at hs
      split at hs
      · simp only [List.mem_append, List.mem_singleton] at hs
        rcases hs with (hs | rfl) | rfl
        · exact h.t s hs
        · exact ⟨_, hlt, htop, rfl⟩
        · exact ⟨_, hlt, htop, rfl⟩
      · simp only [List.mem_append, List.mem_singleton] at hs
        rcases hs with hs | rfl
        · exact h.t s hs
        · exact ⟨_, hlt, htop, rfl⟩
theorem OwnI.all (h : OwnI k U Pn N bs ss j) : OwnI k U Pn N bs (alT k bs ss) (j + 1) := by
  have ht := alT_len (bs := bs) (ss := ss) h.ok
  refine ⟨h.b, h.u, h.p, h.ok, h.n, by have := h.s; omega, fun s hs => ?_⟩
  unfold alT at hs
  rw [List.mem_append] at hs
  rcases hs with hs | hs
  · exact h.t s hs
  · obtain ⟨x, hx, rfl⟩ := (al_touch k bs k.per k.hd h.ok.hd).2 s hs
    exact ⟨x, by have := h.p; omega, by unfold Ck.pos; rw [h.b, h.u], rfl⟩
end
theorem Sizes.own {u p : Int} {U Pn N : Nat} (h : Sizes u p U Pn N 64) : OwnI ⟨32, U, Pn, 0⟩ U Pn N (List.replicate N 0) [] 0 :=
  ⟨rfl, rfl, rfl, newOk_ok (h.ok (x := 32) (by omega)), List.length_replicate, by simp, fun s hs => by simp at hs⟩
/-- A touch in a list of them. -/
theorem touch_at {w : World} {B cap : Nat} {ad : Option Addr} {ss : List Sp} (h : w.ownsRow B 67 3 (.slice ad ss.length cap) ss.length (spcs ss)) (j : Nat) (hj : j < ss.length) : ∃ g, ad = some ⟨g, 0, none⟩ ∧ w.cell? ⟨g, j * 3, none⟩ = some (.int .i64 (ss[j]).1) ∧ w.cell? ⟨g, j * 3 + 1, none⟩ = some (.int .i64 (ss[j]).2.1) ∧ w.cell? ⟨g, j * 3 + 2, none⟩ = some (.bool (ss[j]).2.2) := by
  rcases h.2 with ⟨_, e⟩ | ⟨g, cap', cur, e, _⟩
  · omega
  · simp only [Value.slice.injEq] at e
    obtain ⟨rfl, _, rfl⟩ := e
    exact ⟨g, rfl, row_spans h j hj⟩
set_option maxRecDepth 20000 in
set_option maxHeartbeats 2000000 in
theorem own_walk (u p : Int) (sv : Value) (w : World) (h : ∃ ad cap l, sv = .slice ad (List.length l) cap ∧ OpsAt w ad l ∧ l.length ≤ maxLen) : Calls Try.prog 5 #[.int .i64 u, .int .i64 p, sv] w fun e w' => e = .returned (.bool true) ∧ Fr (fun _ => False) w w' := by
  obtain ⟨ad, cap, l, rfl, hops, hmax⟩ := h
  obtain ⟨mu, mp, U, Pn, M, N, hS, ⟨hmu, hmp⟩, ⟨u1, u2⟩, ⟨p1, p2⟩, ⟨i1, i2⟩, ⟨i3, i4⟩, i5, i6, hM⟩ := sizes u p 64 64 rfl (by omega)
  clear hM
  have HS := hid hS
  have H0 : Hid (∀ w0, Things w w0 [] → Calls Try.prog 15 #[.int .i64 N] w0 fun e w' => ∃ a, e = .returned (.tuple #[.pointer (some ⟨a, 0, none⟩), .int .i64 0]) ∧ Things w w' [Pc a (List.replicate N 0) [] []]) := fun w0 h => g_arena h N (by have := hS.n1; omega)
  have H1 : Hid (∀ w0 a, Things w w0 [Pc a (List.replicate N 0) [] []] → Calls Try.prog 16 #[.pointer (some ⟨a, 0, none⟩), .int .i64 32, .int .i64 U, .int .i64 Pn] w0 fun e w' => ∃ c, e = .returned (.tuple #[.pointer (some ⟨c, 0, none⟩), .int .i64 0]) ∧ Things w w' [Pc a (List.replicate N 0) [] [(c, ⟨32, U, Pn, 0⟩)]]) := fun w0 a h => g_new h 0 rfl (hS.ok (x := 32) (by omega))
  have HT : Hid (Things w w []) := Things.start (Nw.start w)
  have HA : Hid (∀ w0 ts, Things w w0 ts → Calls Try.prog 9 #[] w0 fun e w' => e = .returned (.bool true) ∧ Things w w' ts) := fun w0 ts h => awake_t h
  clear hS
  go_enter Try.func5, Try.ntmps5
  go_wp2_with fail
  refine (H0.out _ HT.out).mono ?_
  rintro e w1 ⟨a, rfl, h1⟩
  have T1 := hid h1
  clear h1 H0 HT
  go_wp2_with fail
  refine (H1.out _ _ T1.out).mono ?_
  rintro e w2 ⟨c, rfl, h1⟩
  have T2 := hid h1
  clear h1 H1 T1
  go_wp2_with fail
  refine (HA.out _ _ T2.out).mono ?_
  rintro e w3 ⟨rfl, h1⟩
  have T3 := hid h1
  clear h1 T2
  by_cases hl : 300 < l.length
  · have hl' : 300 < (l.length : Int) := by omega
    go_wp2_with fail
    refine (HA.out _ _ T3.out).mono ?_
    rintro e w4 ⟨rfl, h1⟩
    have T4 := hid h1
    clear h1 T3
    go_wp2
    go_ret
    exact ⟨by simp, T4.out.nw.fr⟩
  · have hl' : (l.length : Int) ≤ 300 := by omega
    have HOP := hid hops
    have H2 : Hid (∀ w0 bs ss k j x, j ≤ 300 → OwnI k U Pn N bs ss j → Things w w0 [Pc a bs ss [(c, k)]] → Calls Try.prog 17 #[.pointer (some ⟨c, 0, none⟩), .int .i64 x] w0 fun e w' => e = .returned (.int .i64 (puE k x)) ∧ Things w w' [Pc a (puB k bs x) (puT k ss x) [(c, puS k x)]]) := fun w0 bs ss k j x hj hI h => g_push h 0 rfl (by have := hI.s; omega) 0 rfl x
    have H3 : Hid (∀ w0 bs ss k j, j ≤ 300 → OwnI k U Pn N bs ss j → Things w w0 [Pc a bs ss [(c, k)]] → Calls Try.prog 19 #[.pointer (some ⟨c, 0, none⟩)] w0 fun e w' => e = .returned (.tuple #[.int .i64 (poV k bs), .int .i64 (poE k bs)]) ∧ Things w w' [Pc a (poB k bs) (poT k bs ss) [(c, poS k bs)]]) := fun w0 bs ss k j hj hI h => g_pop h 0 rfl (by have := hI.s; omega) 0 rfl
    have H4 : Hid (∀ w0 bs ss k j, j ≤ 300 → OwnI k U Pn N bs ss j → Things w w0 [Pc a bs ss [(c, k)]] → Calls Try.prog 18 #[.pointer (some ⟨c, 0, none⟩)] w0 fun e w' => ∃ ad n cap E, e = .returned (.tuple #[.slice ad n cap, .int .i64 E]) ∧ Things w w' [Pc a bs (alT k bs ss) [(c, k)]]) := fun w0 bs ss k j hj hI h => (g_all h 0 rfl (by have := hI.s; omega) 0 rfl).mono fun e w' ⟨ad, cap, he, h⟩ => ⟨ad, _, cap, _, he, Things.less (ts := [Pc a bs (alT k bs ss) [(c, k)]]) h⟩
    have HI0 := hid HS.out.own
    clear hops hl
    go_wp2
    go_loopw [58] (fun i wr => ∃ (j : Nat) (bs : List UInt8) (ss : List Sp) (k : Ck), j ≤ l.length ∧ i = .int .i64 j ∧ Hid (OwnI k U Pn N bs ss j) ∧ Hid (Things w wr [Pc a bs ss [(c, k)]])) (fun i _ => l.length - (intOf i).toNat)
    case atStart => exact ⟨0, _, _, _, by omega, rfl, HI0, T3⟩
    case round =>
      obtain ⟨j, bs, ss, k, hj, rfl, HI, HT⟩ := hrel
      clear HI0 T3
      by_cases hlt : j < l.length
      · obtain ⟨bb, off, rfl, hbb, hc1, hc2, hc3, hc4, hB⟩ := HOP.out.fr HT.out.nw.fr j hlt
        generalize hk : l[j] = o at hc1 hc2 hc3 hc4 hB
        obtain ⟨kind, x, two, v⟩ := o
        simp only at hc1 hc2 hc3 hc4
        have hj3 : j ≤ 300 := by omega
        have HT0 := hid (HT.out.kept ((Fr.refl _ _).alloc (.cells #[.int .i64 kind, .int .i64 x, .bool two, .int .u64 v] 39)))
        have HP := hid (HI.out.push x)
        have HQ := hid HI.out.pop
        have HR := hid HI.out.all
        clear hk HOP HT hB
        by_cases hk1 : kind = 1
        · subst hk1
          go_wp2_with fail
          refine (H2.out _ _ _ _ _ _ hj3 HI.out HT0.out).mono ?_
          rintro e w4 ⟨rfl, h4⟩
          have T4 := hid h4
          clear h4 HT0 H2 H3 H4
          go_wp2
          go_roundw
          case rel => exact ⟨j + 1, _, _, _, by omega, by go_num, HP, T4⟩
          case measure => simp [intOf]; omega
        · by_cases hk2 : kind = 2
          · subst hk2
            clear hk1
            go_wp2_with fail
            refine (H3.out _ _ _ _ _ hj3 HI.out HT0.out).mono ?_
            rintro e w4 ⟨rfl, h4⟩
            have T4 := hid h4
            clear h4 HT0 H2 H3 H4
            go_wp2
            go_roundw
            case rel => exact ⟨j + 1, _, _, _, by omega, by go_num, HQ, T4⟩
            case measure => simp [intOf]; omega
          · go_wp2_with fail
            refine (H4.out _ _ _ _ _ hj3 HI.out HT0.out).mono ?_
            rintro e w4 ⟨ad4, n4, cap4, E4, rfl, h4⟩
            have T4 := hid h4
            clear h4 HT0 H2 H3 H4
            go_wp2
            go_roundw
            case rel => exact ⟨j + 1, _, _, _, by omega, by go_num, HR, T4⟩
            case measure => simp [intOf]; omega
      · obtain rfl : j = l.length := by omega
        clear H2 H3 H4 HOP
        have hsl : ss.length ≤ 1000002 := by have := HI.out.s; omega
        have HTC : Hid (∀ w0, Things w w0 [Pc a bs ss [(c, k)]] → Calls Try.prog 12 #[.pointer (some ⟨a, 0, none⟩)] w0 fun e w' => ∃ ad cap, e = .returned (.slice ad ss.length cap) ∧ w'.ownsRow w0.heap.size 67 3 (.slice ad ss.length cap) ss.length (spcs ss) ∧ Nw w w') := fun w0 h => by
          obtain ⟨U, h1, _⟩ := h.get 0 rfl
          exact (k_touched h1 hsl).mono fun e w' ⟨ad, cap, he, ho, f⟩ => ⟨ad, cap, he, ho, h.nw.kept f⟩
        go_wp2_with fail
        refine (HTC.out _ HT.out).mono ?_
        rintro e w5 ⟨tad, tcap, rfl, ho, f5⟩
        have HO := hid ho
        have F5 := hid f5
        clear ho f5 HTC HT
        have HU := hid HS.out
        go_wp2
        go_loopw [80] (fun i wr => ∃ j : Nat, j ≤ ss.length ∧ i = .int .i64 j ∧ Hid (Fr (fun _ => False) w5 wr)) (fun i _ => ss.length - (intOf i).toNat)
        case atStart => exact ⟨0, by omega, rfl, Fr.refl _ _⟩
        case round =>
          obtain ⟨j, hj, rfl, HF⟩ := hrel
          by_cases hlt : j < ss.length
          · obtain ⟨g, rfl, hc0, hc1, hc2⟩ := touch_at (own_turn HO.out HF.out fun _ _ => id) j hlt
            obtain ⟨x, hx, e1, e2⟩ := HI.out.t _ (List.getElem_mem hlt)
            generalize hk : ss[j] = sp at hc0 hc1 hc2 e1 e2
            obtain ⟨at_, n, wr_⟩ := sp
            simp only at hc0 hc1 hc2 e1 e2
            subst e2
            have hu0 := HU.out.u0
            have hu1 := HU.out.u1
            have hp1 := HU.out.p1
            have hxm : x * U ≤ 64 * 512 := Nat.mul_le_mul (by omega) hu1
            have t1 : Int.tmod ((x * U : Nat) : Int) (U : Int) = 0 := by rw [Int.natCast_mul]; exact Int.mul_tmod_left _ _
            have t2 : Int.tdiv ((x * U : Nat) : Int) (U : Int) = x := by rw [Int.natCast_mul]; exact Int.mul_tdiv_cancel _ (by omega)
            have t3 : ((x * U : Nat) : Int) % (U : Int) = 0 := by rw [Int.natCast_mul]; exact Int.mul_emod_left _ _
            have t4 : ((x * U : Nat) : Int) / (U : Int) = x := by rw [Int.natCast_mul]; exact Int.mul_ediv_cancel _ (by omega)
            have t5 : IntKind.i64.wrap (at_ - 32) = ((x * U : Nat) : Int) := by rw [wrapI _ (by omega) (by omega)]; omega
            have t6 : ¬ at_ < 32 := by omega
            have t7 : (x : Int) < Pn := by omega
            have t8 : (U : Int) ≠ 0 := by omega
            have HF2 := hid (HF.out.alloc (.cells #[.int .i64 at_, .int .i64 8, .bool wr_] 67))
            clear hk e1 hxm HF HO HI HU HS
            generalize x * U = m at *
            go_wp2
            go_roundw
            case rel => exact ⟨j + 1, by omega, by go_num, HF2⟩
            case measure => simp [intOf]; omega
          · obtain rfl : j = ss.length := by omega
            go_wp2
            go_ret
            exact ⟨by simp, F5.out.fr.trans HF.out⟩
end Go.Proofs.Ytjgkcaibapffhaa
