/-
  The document's own examples stand, so the laws are awake.
  Calls of a tenant as they come in; the laws' own 'long'.
  Numbers that came in, laid anew: append([]int{}, l...).
  The laws' own 'made': a tenant of a new arena.
-/
import Derived.Test.YtioplfbkfokkfaaGreatDoorTnNew
import Derived.LoopTactic
import Derived.Test.YtioplfbkfokkfaaGreatDoorHpTopF
import Derived.Deep.RegionHeld3
namespace Go.Proofs.YtioplfbkfokkfaaGreatDoor
open Go.RowKit
open An

theorem Hc.tk {k : Nat} {S : TnS} (h : Hc k S.M S.H) (n : Int) (hs : S.M.ss.length ≤ 800000) : Hc k (tkS k S n).M (tkS k S n).H ∧ (tkS k S n).M.ss.length ≤ S.M.ss.length + 2 := by
  have hm := h.malloc n hs
  have hb : Hc k (blS k (tk1 S n) n).M (blS k (tk1 S n) n).H ∧ (blS k (tk1 S n) n).M.ss.length ≤ S.M.ss.length + 2 := by
    unfold blS
    split
    · exact ⟨h, by show S.M.ss.length ≤ _; omega⟩
    · exact hm
  unfold tkS
  split
  · exact ⟨h, by omega⟩
  · split
    · split
      · exact hb
      · exact hb
    · exact ⟨h, by show S.M.ss.length ≤ _; omega⟩
def am : Ms := ⟨List.replicate 32 false, List.replicate (32 * 512) 0, []⟩
def aw0 : TnS := newT am [0] 0 1 100
def aw1a : TnS := tkS 2 aw0 40
def aw1 : TnS := owS aw1a 393216 40
def awx : Int := Ka.grV aw1a.c 393216
def aw2a : TnS := tkS 2 aw1 40
def aw2 : TnS := owS aw2a 393264 40
def awy : Int := Ka.grV aw2a.c 393264
def aw3 : TnS := tkS 2 aw2 1
def aw4 : TnS := ctS aw3 393216 48 48
def aw5 : TnS := tkS 2 aw4 49
def aw6 : TnS := { aw5 with M := ⟨aw5.M.has, vwB aw5.H.T aw5.M.bs 393262 [97, 98], vwT aw5.H.T aw5.M.bs.length aw5.M.ss 393262 2⟩ }
def aw7 : TnS := { aw6 with M := ⟨aw6.M.has, aw6.M.bs, vrT aw6.H.T aw6.M.bs.length aw6.M.ss 393261 3⟩ }
def aw8 : TnS := rlS aw7 393264 2 0 1 0 48
theorem aw_0 : fitE 0 100 100 (pgI 32 2 [0]) = 0 := by decide +kernel
theorem aw_1 : tkE 2 aw0 40 = 0 ∧ tkV 2 aw0 40 = 393216 ∧ Ka.grE aw1a.c 393216 = 0 ∧ aw1a.s.cb = 48 := by decide +kernel
theorem aw_2 : tkE 2 aw1 40 = 0 ∧ tkV 2 aw1 40 = 393264 ∧ Ka.grE aw2a.c 393264 = 0 ∧ aw2a.s.cb = 96 ∧ aw1.n = 1 := by decide +kernel
theorem aw_3 : tkE 2 aw2 1 = 3 ∧ aw3.s.cb = 96 ∧ aw2.n = 2 := by decide +kernel
theorem aw_4 : Ka.fiE aw3.c awx 4 = 0 ∧ Ka.fiV aw3.c awx 4 = 393216 ∧ aw3.f 393216 = some (40, 48) ∧ chargeI 48 = 48 ∧ 0 ≤ ofI 48 ∧ aw3.n = 2 ∧ 0 ≤ awx ∧ awx ≤ 18446744073709551615 := by decide +kernel
theorem aw_5 : Ka.fiE aw4.c awx 4 = 0 ∧ Ka.fiV aw4.c awx 4 = 393216 ∧ aw4.f 393216 = some (48, 48) ∧ chargeI 49 = 64 ∧ 0 ≤ ofI 49 ∧ tkE 2 aw4 49 = 3 ∧ aw5.s.cb = 96 := by decide +kernel
theorem aw_6 : Ka.fiE aw5.c awx 2 = 0 ∧ Ka.fiV aw5.c awx 2 = 393216 ∧ aw5.f 393216 = some (48, 48) ∧ vwE aw5.H.T aw5.M.bs.length 393262 2 = 0 ∧ adI 2 0 0 = 393216 ∧ (unitI 2).toNat = 48 := by decide +kernel
theorem aw_7 : Ka.fiE aw6.c awx 1 = 0 ∧ Ka.fiV aw6.c awx 1 = 393216 ∧ aw6.f 393216 = some (48, 48) ∧ vwE aw6.H.T aw6.M.bs.length 393261 3 = 0 ∧ vrV aw6.H.T aw6.M.bs 393261 3 = [0, 97, 98] ∧ aw6.s.cb = 96 := by decide +kernel
theorem aw_8 : Ka.fiE aw7.c awy 4 = 0 ∧ Ka.fiV aw7.c awy 4 = 393264 ∧ aw7.f 393264 = some (40, 48) ∧ aw8.s.cb = 48 ∧ adI 2 0 1 = 393264 ∧ 0 ≤ awy ∧ awy ≤ 18446744073709551615 := by decide +kernel
theorem aw_had : HadB aw5.H.L 2 0 0 := by
  unfold HadB
  decide +kernel
theorem hc_0 : Hc 2 aw0.M aw0.H := hc_new (n := 32) (k := 2) (by decide) (by simp)
theorem hc_1 : Hc 2 aw1.M aw1.H ∧ aw1.M.ss.length ≤ 2 := hc_0.tk 40 (Nat.zero_le _)
theorem hc_2 : Hc 2 aw2.M aw2.H ∧ aw2.M.ss.length ≤ 4 := by have h := hc_1; have := h.1.tk 40 (by omega); exact ⟨this.1, Nat.le_trans this.2 (by omega)⟩
theorem hc_3 : Hc 2 aw3.M aw3.H ∧ aw3.M.ss.length ≤ 6 := by have h := hc_2; have := h.1.tk 1 (by omega); exact ⟨this.1, Nat.le_trans this.2 (by omega)⟩
theorem hc_4 : Hc 2 aw4.M aw4.H ∧ aw4.M.ss.length ≤ 6 := hc_3
theorem hc_5 : Hc 2 aw5.M aw5.H ∧ aw5.M.ss.length ≤ 8 := by have h := hc_4; have := h.1.tk 49 (by omega); exact ⟨this.1, Nat.le_trans this.2 (by omega)⟩
theorem hc_6 : Hc 2 aw6.M aw6.H ∧ aw6.M.ss.length ≤ 42 := by
  have h := hc_5
  have h5 := h.2
  have hl := (hc_few h.1.ok.tp.tb aw5.M.bs.length aw5.M.ss 393262 (n := 2) (by omega)).2
  have hw := h.1.wrote aw_had (f := 46) (ds := [97, 98]) (ss' := vwT aw5.H.T aw5.M.bs.length aw5.M.ss 393262 2) (by show 48 ≤ (unitI 2).toNat; rw [aw_6.2.2.2.2.2]; exact Nat.le_refl _) (by omega)
  have e : adI ((2 : Nat) : Int) ((0 : Nat) : Int) ((0 : Nat) : Int) = 393216 := aw_6.2.2.2.2.1
  rw [e, show (393216 : Int) + ((46 : Nat) : Int) = 393262 from rfl] at hw
  have e2 : aw6.M = ⟨aw5.M.has, vwB aw5.H.T aw5.M.bs 393262 [97, 98], vwT aw5.H.T aw5.M.bs.length aw5.M.ss 393262 2⟩ := by unfold aw6; rfl
  have e3 : aw6.H = aw5.H := by unfold aw6; rfl
  rw [e2, e3]
  exact ⟨hw, by dsimp only; omega⟩
theorem hc_7 : Hc 2 aw7.M aw7.H ∧ aw7.M.ss.length ≤ 76 := by
  have h := hc_6
  have h5 := h.2
  have hl := (hc_few h.1.ok.tp.tb aw6.M.bs.length aw6.M.ss 393261 (n := 3) (by omega)).1
  have e2 : aw7.M = ⟨aw6.M.has, aw6.M.bs, vrT aw6.H.T aw6.M.bs.length aw6.M.ss 393261 3⟩ := by unfold aw7; rfl
  have e3 : aw7.H = aw6.H := by unfold aw7; rfl
  rw [e2, e3]
  exact ⟨h.1.notes (by omega), by dsimp only; omega⟩
set_option maxRecDepth 20000 in
set_option maxHeartbeats 2000000 in
theorem awake_any {W w : World} (h : Nw W w) (gr : G17 W) : Calls Tryz.prog 6 #[] w fun e w' => e = .returned (.bool true) ∧ Nw W w' := by
  have HT := hid (Things.start h)
  have H0 : Hid (∀ w, Things W w [] → Calls Tryz.prog 22 #[.int .i64 16384] w fun e w' => ∃ a, e = .returned (.tuple #[.pointer (some ⟨a, 0, none⟩), .int .i64 0]) ∧ Things W w' [Am 104 a am.bs am.ss]) := fun w h => q_arena h 16384 (by omega)
  have H1 : Hid (∀ w a, Things W w [Am 104 a am.bs am.ss] → Calls Tryz.prog 23 #[.agg #[.int .i64 32, .int .i64 2]] w fun e w' => ∃ m, e = .returned (.tuple #[.pointer (some ⟨m, 0, none⟩), .int .i64 0]) ∧ Things W w' [Ac a m 2 am]) := fun w a h => (q_map h gr (n := 32) (k := 2) (by decide)).mono fun e w' ⟨m, he, h2⟩ => ⟨m, he, Things.join (ts := [Am 104 a am.bs am.ss]) h2 0 rfl⟩
  have H2 : Hid (∀ w a m, Things W w [Ac a m 2 am] → Calls Tryz.prog 7 #[.pointer (some ⟨a, 0, none⟩), .pointer (some ⟨m, 0, none⟩), .int .i64 0, .int .i64 1, .int .i64 100, .slice (some ⟨w.heap.size, 0, none⟩) 1 1] (w.alloc (.cells #[.int .i64 0] 3)) fun e w' => ∃ x : Tp, x.k = 2 ∧ e = .returned (.tuple #[.pointer (some ⟨x.T, 0, none⟩), .int .i64 0]) ∧ Things W w' (tnl x aw0 [Lv (some ⟨w.heap.size, 0, none⟩) [0]])) := fun w a m h => by
    have q := Things.list h [0] (T := 3) (by simp)
    have q := Things.join (ts := [Ac a m 2 am]) q 0 rfl
    exact (n_new_ok (l := [0]) (cap := 1) (ts := []) q gr hc_0.ms (by omega) (by omega) (by decide) (by simp) (by omega) aw_0).mono fun e w' ⟨x, hx, he, h2⟩ => ⟨x, hx.2.2.1, he, h2⟩
  have H3 : Hid (∀ w (x : Tp) ts, x.k = 2 → Things W w (tnl x aw0 ts) → Calls Tryz.prog 16 #[.pointer (some ⟨x.T, 0, none⟩), .int .i64 40] w fun e w' => e = .returned (ans 0 awx 393216 0 ⟨#[]⟩ 48) ∧ Things W w' (tnl x aw1 ts)) := fun w x ts hk g => by
    obtain ⟨e1, e2, e3, e4⟩ := aw_1
    have h := n_malloc_ok (n := 40) g gr (by rw [hk]; exact hc_0) (by decide) (by rw [hk]; exact e1) (by rw [hk, e2]; decide) (by show _ < maxLen; unfold maxLen; decide)
    rw [show tkS x.k aw0 40 = aw1a by rw [hk]; rfl, show tkV x.k aw0 40 = 393216 by rw [hk]; exact e2, e3, e4] at h
    exact h
  have H4 : Hid (∀ w (x : Tp) ts, x.k = 2 → Things W w (tnl x aw1 ts) → Calls Tryz.prog 16 #[.pointer (some ⟨x.T, 0, none⟩), .int .i64 40] w fun e w' => e = .returned (ans 0 awy 393264 0 ⟨#[]⟩ 96) ∧ Things W w' (tnl x aw2 ts)) := fun w x ts hk g => by
    obtain ⟨e1, e2, e3, e4, e5⟩ := aw_2
    have h := n_malloc_ok (n := 40) g gr (by rw [hk]; exact hc_1.1) (by decide) (by rw [hk]; exact e1) (by rw [hk, e2]; decide) (by show _ < maxLen; unfold maxLen; omega)
    rw [show tkS x.k aw1 40 = aw2a by rw [hk]; rfl, show tkV x.k aw1 40 = 393264 by rw [hk]; exact e2, e3, e4] at h
    exact h
  have H5 : Hid (∀ w (x : Tp) ts, x.k = 2 → Things W w (tnl x aw2 ts) → Calls Tryz.prog 16 #[.pointer (some ⟨x.T, 0, none⟩), .int .i64 1] w fun e w' => e = .returned (ans 3 0 0 0 ⟨#[]⟩ 96) ∧ Things W w' (tnl x aw3 ts)) := fun w x ts hk g => by
    obtain ⟨e1, e2, e3⟩ := aw_3
    have h := n_malloc_no (n := 1) g gr (by rw [hk]; exact hc_2.1) (by decide) (by rw [hk, e1]; decide)
    rw [show tkE x.k aw2 1 = 3 by rw [hk]; exact e1, show tkS x.k aw2 1 = aw3 by rw [hk]; rfl, e2] at h
    exact h
  have H6 : Hid (∀ w (x : Tp) ts, x.k = 2 → Things W w (tnl x aw3 ts) → Calls Tryz.prog 24 #[.pointer (some ⟨x.T, 0, none⟩), .int .u64 awx, .int .i64 48] w fun e w' => e = .returned (ans 0 awx 393216 0 ⟨#[]⟩ 96) ∧ Things W w' (tnl x aw4 ts)) := fun w x ts hk g => by
    obtain ⟨e1, e2, e3, e4, e5, e6, e7, e8⟩ := aw_4
    have h := n_realloc_in (S1 := aw4) (n := 48) g gr e7 e8 e1 e5 (y := (40, 48)) (by rw [e2]; decide) (by rw [e2]; exact e3) (by decide) (by rw [e4]; decide) rfl fun w ts g => by
      rw [e2]
      exact n_cut_up (n := 48) g (by decide) (by show _ < maxLen; unfold maxLen; omega) e3 (by decide)
    rw [e2, aw_3.2.1] at h
    exact h
  have H7 : Hid (∀ w (x : Tp) ts, x.k = 2 → Things W w (tnl x aw4 ts) → Calls Tryz.prog 24 #[.pointer (some ⟨x.T, 0, none⟩), .int .u64 awx, .int .i64 49] w fun e w' => e = .returned (ans 3 0 0 0 ⟨#[]⟩ 96) ∧ Things W w' (tnl x aw5 ts)) := fun w x ts hk g => by
    obtain ⟨e1, e2, e3, e4, e5, e6, e7⟩ := aw_5
    have h := n_realloc_full (n := 49) g gr (by rw [hk]; exact hc_4.1) aw_4.2.2.2.2.2.2.1 aw_4.2.2.2.2.2.2.2 e1 e5 (y := (48, 48)) (by rw [e2]; decide) (by rw [e2]; exact e3) (by decide) (by rw [e4]; decide) (by decide) (by rw [hk, e6]; decide)
    rw [show tkE x.k aw4 49 = 3 by rw [hk]; exact e6, show tkS x.k aw4 49 = aw5 by rw [hk]; rfl, e7] at h
    exact h
  have H8 : Hid (∀ w (x : Tp) ts, x.k = 2 → Things W w (tnl x aw5 ts) → Calls Tryz.prog 19 #[.pointer (some ⟨x.T, 0, none⟩), .int .u64 awx, .int .i64 46, .string ⟨#[97, 98]⟩] w fun e w' => e = .returned (ans 0 0 0 0 ⟨#[]⟩ 96) ∧ Things W w' (tnl x aw6 ts)) := fun w x ts hk g => by
    obtain ⟨e1, e2, e3, e4, _⟩ := aw_6
    have h := n_write_ok (fr := 46) (av := 393262) (d := ⟨#[97, 98]⟩) g (by rw [hk]; exact hc_5.1) (b := awx) (fun w ts g => by
      have h := n_reach (r := 2) (fr := 46) (n := 2) g aw_4.2.2.2.2.2.2.1 aw_4.2.2.2.2.2.2.2 (by omega) (by decide) e1 (by rw [e2]; omega) (y := (48, 48)) (by rw [e2]; exact e3) (by decide)
      rw [e2] at h
      exact h) (by decide) (by decide)
    rw [show vwE aw5.H.T aw5.M.bs.length 393262 ((⟨#[97, 98]⟩ : ByteArray).size : Int) = 0 from e4, aw_5.2.2.2.2.2.2] at h
    exact h
  have H9 : Hid (∀ w (x : Tp) ts, x.k = 2 → Things W w (tnl x aw6 ts) → Calls Tryz.prog 20 #[.pointer (some ⟨x.T, 0, none⟩), .int .u64 awx, .int .i64 45, .int .i64 3] w fun e w' => e = .returned (ans 0 0 0 0 ⟨#[0, 97, 98]⟩ 96) ∧ Things W w' (tnl x aw7 ts)) := fun w x ts hk g => by
    obtain ⟨e1, e2, e3, e4, e5, e6⟩ := aw_7
    have h := n_read_ok (fr := 45) (av := 393261) (n := 3) g (by rw [hk]; exact hc_6.1) (b := awx) (fun w ts g => by
      have h := n_reach (r := 1) (fr := 45) (n := 3) g aw_4.2.2.2.2.2.2.1 aw_4.2.2.2.2.2.2.2 (by omega) (by decide) e1 (by rw [e2]; omega) (y := (48, 48)) (by rw [e2]; exact e3) (by decide)
      rw [e2] at h
      exact h) (by decide) (by decide) (by decide)
    rw [e4, e5, e6] at h
    exact h
  have H10 : Hid (∀ w (x : Tp) ts, x.k = 2 → Things W w (tnl x aw7 ts) → Calls Tryz.prog 21 #[.pointer (some ⟨x.T, 0, none⟩), .int .u64 awy] w fun e w' => e = .returned (ans 0 0 0 0 ⟨#[]⟩ 48) ∧ Things W w' (tnl x aw8 ts)) := fun w x ts hk g => by
    obtain ⟨e1, e2, e3, e4, e5, e6, e7⟩ := aw_8
    have h := n_free_ok g gr (by rw [hk]; exact hc_7.1) e6 e7 e1 (kd := 2) (s := 0) (i := 1) (E := 0) (by rw [e2]; exact .inl ⟨rfl, by decide, e5⟩) (by rw [e2]; decide) (y := (40, 48)) (by rw [e2]; exact e3) (by decide)
    rw [e2] at h
    rw [show (rlS aw7 393264 2 0 1 0 48).s.cb = 48 from e4] at h
    exact h
  clear h gr
  go_enter Tryz.func6, Tryz.ntmps6
  go_wp2_with fail
  refine (H0.out _ HT.out).mono ?_
  rintro e w1 ⟨a, rfl, h1⟩
  have T1 := hid h1
  clear h1 HT H0
  go_wp2_with fail
  refine (H1.out _ _ T1.out).mono ?_
  rintro e w2 ⟨m, rfl, h2⟩
  have T2 := hid h2
  clear h2 T1 H1
  go_wp2_with fail
  refine (H2.out _ _ _ T2.out).mono ?_
  rintro e w3 ⟨x, hk, rfl, h3⟩
  have T3 := hid h3
  clear h3 T2 H2
  have HK := hid hk
  clear hk
  go_wp2_with fail
  refine (H3.out _ _ _ HK.out T3.out).mono ?_
  rintro e w4 ⟨rfl, h4⟩
  have T4 := hid h4
  clear h4 T3 H3
  go_wp2_with fail
  refine (H4.out _ _ _ HK.out T4.out).mono ?_
  rintro e w5 ⟨rfl, h5⟩
  have T5 := hid h5
  clear h5 T4 H4
  go_wp2_with fail
  refine (H5.out _ _ _ HK.out T5.out).mono ?_
  rintro e w6 ⟨rfl, h6⟩
  have T6 := hid h6
  clear h6 T5 H5
  have B6 : Hid (Things W (((w6.alloc (.cells #[.int .i64 0, .int .u64 awx, .int .i64 393216, .int .i64 0, .string ⟨#[]⟩, .int .i64 48] 38)).alloc (.cells #[.int .i64 0, .int .u64 awy, .int .i64 393264, .int .i64 0, .string ⟨#[]⟩, .int .i64 96] 38)).alloc (.cells #[.int .i64 3, .int .u64 0, .int .i64 0, .int .i64 0, .string ⟨#[]⟩, .int .i64 96] 38)) (tnl x aw3 [Lv (some ⟨w2.heap.size, 0, none⟩) [0], Blk w6.heap.size (.cells #[.int .i64 0, .int .u64 awx, .int .i64 393216, .int .i64 0, .string ⟨#[]⟩, .int .i64 48] 38 (0, 0)), Blk (w6.heap.size + 1) (.cells #[.int .i64 0, .int .u64 awy, .int .i64 393264, .int .i64 0, .string ⟨#[]⟩, .int .i64 96] 38 (0, 0)), Blk (w6.heap.size + 1 + 1) (.cells #[.int .i64 3, .int .u64 0, .int .i64 0, .int .i64 0, .string ⟨#[]⟩, .int .i64 96] 38 (0, 0))])) := by
    have q := ((T6.out.blk (.cells #[.int .i64 0, .int .u64 awx, .int .i64 393216, .int .i64 0, .string ⟨#[]⟩, .int .i64 48] 38)).blk (.cells #[.int .i64 0, .int .u64 awy, .int .i64 393264, .int .i64 0, .string ⟨#[]⟩, .int .i64 96] 38)).blk (.cells #[.int .i64 3, .int .u64 0, .int .i64 0, .int .i64 0, .string ⟨#[]⟩, .int .i64 96] 38)
    simp only [World.size_alloc] at q
    exact q
  clear T6
  go_wp2_with fail
  refine (H6.out _ _ _ HK.out B6.out).mono ?_
  rintro e w7 ⟨rfl, h7⟩
  have T7 := hid h7
  clear h7 B6 H6
  have B7 : Hid (Things W (w7.alloc (.cells #[.int .i64 0, .int .u64 awx, .int .i64 393216, .int .i64 0, .string ⟨#[]⟩, .int .i64 96] 38)) (tnl x aw4 [Lv (some ⟨w2.heap.size, 0, none⟩) [0], Blk w6.heap.size (.cells #[.int .i64 0, .int .u64 awx, .int .i64 393216, .int .i64 0, .string ⟨#[]⟩, .int .i64 48] 38 (0, 0)), Blk (w6.heap.size + 1) (.cells #[.int .i64 0, .int .u64 awy, .int .i64 393264, .int .i64 0, .string ⟨#[]⟩, .int .i64 96] 38 (0, 0)), Blk (w6.heap.size + 1 + 1) (.cells #[.int .i64 3, .int .u64 0, .int .i64 0, .int .i64 0, .string ⟨#[]⟩, .int .i64 96] 38 (0, 0)), Blk w7.heap.size (.cells #[.int .i64 0, .int .u64 awx, .int .i64 393216, .int .i64 0, .string ⟨#[]⟩, .int .i64 96] 38 (0, 0))])) := T7.out.blk (.cells #[.int .i64 0, .int .u64 awx, .int .i64 393216, .int .i64 0, .string ⟨#[]⟩, .int .i64 96] 38)
  clear T7
  have x0 := box_cellT (B7.out.cells 6 rfl) 1 rfl
  have xf0 := box_frz (B7.out.cells 6 rfl) 1
  have x1 := box_cellT (B7.out.cells 7 rfl) 1 rfl
  have xf1 := box_frz (B7.out.cells 7 rfl) 1
  go_wp2_with fail
  refine (H7.out _ _ _ HK.out B7.out).mono ?_
  rintro e w8 ⟨rfl, h8⟩
  have T8 := hid h8
  clear h8 B7 H7 x0 xf0 x1 xf1
  have B8 : Hid (Things W (w8.alloc (.cells #[.int .i64 3, .int .u64 0, .int .i64 0, .int .i64 0, .string ⟨#[]⟩, .int .i64 96] 38)) (tnl x aw5 [Lv (some ⟨w2.heap.size, 0, none⟩) [0], Blk w6.heap.size (.cells #[.int .i64 0, .int .u64 awx, .int .i64 393216, .int .i64 0, .string ⟨#[]⟩, .int .i64 48] 38 (0, 0)), Blk (w6.heap.size + 1) (.cells #[.int .i64 0, .int .u64 awy, .int .i64 393264, .int .i64 0, .string ⟨#[]⟩, .int .i64 96] 38 (0, 0)), Blk (w6.heap.size + 1 + 1) (.cells #[.int .i64 3, .int .u64 0, .int .i64 0, .int .i64 0, .string ⟨#[]⟩, .int .i64 96] 38 (0, 0)), Blk w7.heap.size (.cells #[.int .i64 0, .int .u64 awx, .int .i64 393216, .int .i64 0, .string ⟨#[]⟩, .int .i64 96] 38 (0, 0)), Blk w8.heap.size (.cells #[.int .i64 3, .int .u64 0, .int .i64 0, .int .i64 0, .string ⟨#[]⟩, .int .i64 96] 38 (0, 0))])) := T8.out.blk (.cells #[.int .i64 3, .int .u64 0, .int .i64 0, .int .i64 0, .string ⟨#[]⟩, .int .i64 96] 38)
  clear T8
  have x0 := box_cellT (B8.out.cells 6 rfl) 1 rfl
  have xf0 := box_frz (B8.out.cells 6 rfl) 1
  have x1 := box_cellT (B8.out.cells 7 rfl) 1 rfl
  have xf1 := box_frz (B8.out.cells 7 rfl) 1
  go_wp2_with fail
  refine (H8.out _ _ _ HK.out B8.out).mono ?_
  rintro e w9 ⟨rfl, h9⟩
  have T9 := hid h9
  clear h9 B8 H8 x0 xf0 x1 xf1
  have B9 : Hid (Things W (w9.alloc (.cells #[.int .i64 0, .int .u64 0, .int .i64 0, .int .i64 0, .string ⟨#[]⟩, .int .i64 96] 38)) (tnl x aw6 [Lv (some ⟨w2.heap.size, 0, none⟩) [0], Blk w6.heap.size (.cells #[.int .i64 0, .int .u64 awx, .int .i64 393216, .int .i64 0, .string ⟨#[]⟩, .int .i64 48] 38 (0, 0)), Blk (w6.heap.size + 1) (.cells #[.int .i64 0, .int .u64 awy, .int .i64 393264, .int .i64 0, .string ⟨#[]⟩, .int .i64 96] 38 (0, 0)), Blk (w6.heap.size + 1 + 1) (.cells #[.int .i64 3, .int .u64 0, .int .i64 0, .int .i64 0, .string ⟨#[]⟩, .int .i64 96] 38 (0, 0)), Blk w7.heap.size (.cells #[.int .i64 0, .int .u64 awx, .int .i64 393216, .int .i64 0, .string ⟨#[]⟩, .int .i64 96] 38 (0, 0)), Blk w8.heap.size (.cells #[.int .i64 3, .int .u64 0, .int .i64 0, .int .i64 0, .string ⟨#[]⟩, .int .i64 96] 38 (0, 0)), Blk w9.heap.size (.cells #[.int .i64 0, .int .u64 0, .int .i64 0, .int .i64 0, .string ⟨#[]⟩, .int .i64 96] 38 (0, 0))])) := T9.out.blk (.cells #[.int .i64 0, .int .u64 0, .int .i64 0, .int .i64 0, .string ⟨#[]⟩, .int .i64 96] 38)
  clear T9
  have x0 := box_cellT (B9.out.cells 6 rfl) 1 rfl
  have xf0 := box_frz (B9.out.cells 6 rfl) 1
  have x1 := box_cellT (B9.out.cells 7 rfl) 1 rfl
  have xf1 := box_frz (B9.out.cells 7 rfl) 1
  go_wp2_with fail
  refine (H9.out _ _ _ HK.out B9.out).mono ?_
  rintro e w10 ⟨rfl, h10⟩
  have T10 := hid h10
  clear h10 B9 H9 x0 xf0 x1 xf1
  have B10 : Hid (Things W (w10.alloc (.cells #[.int .i64 0, .int .u64 0, .int .i64 0, .int .i64 0, .string ⟨#[0, 97, 98]⟩, .int .i64 96] 38)) (tnl x aw7 [Lv (some ⟨w2.heap.size, 0, none⟩) [0], Blk w6.heap.size (.cells #[.int .i64 0, .int .u64 awx, .int .i64 393216, .int .i64 0, .string ⟨#[]⟩, .int .i64 48] 38 (0, 0)), Blk (w6.heap.size + 1) (.cells #[.int .i64 0, .int .u64 awy, .int .i64 393264, .int .i64 0, .string ⟨#[]⟩, .int .i64 96] 38 (0, 0)), Blk (w6.heap.size + 1 + 1) (.cells #[.int .i64 3, .int .u64 0, .int .i64 0, .int .i64 0, .string ⟨#[]⟩, .int .i64 96] 38 (0, 0)), Blk w7.heap.size (.cells #[.int .i64 0, .int .u64 awx, .int .i64 393216, .int .i64 0, .string ⟨#[]⟩, .int .i64 96] 38 (0, 0)), Blk w8.heap.size (.cells #[.int .i64 3, .int .u64 0, .int .i64 0, .int .i64 0, .string ⟨#[]⟩, .int .i64 96] 38 (0, 0)), Blk w9.heap.size (.cells #[.int .i64 0, .int .u64 0, .int .i64 0, .int .i64 0, .string ⟨#[]⟩, .int .i64 96] 38 (0, 0)), Blk w10.heap.size (.cells #[.int .i64 0, .int .u64 0, .int .i64 0, .int .i64 0, .string ⟨#[0, 97, 98]⟩, .int .i64 96] 38 (0, 0))])) := T10.out.blk (.cells #[.int .i64 0, .int .u64 0, .int .i64 0, .int .i64 0, .string ⟨#[0, 97, 98]⟩, .int .i64 96] 38)
  clear T10
  have x0 := box_cellT (B10.out.cells 6 rfl) 1 rfl
  have xf0 := box_frz (B10.out.cells 6 rfl) 1
  have x1 := box_cellT (B10.out.cells 7 rfl) 1 rfl
  have xf1 := box_frz (B10.out.cells 7 rfl) 1
  go_wp2_with fail
  refine (H10.out _ _ _ HK.out B10.out).mono ?_
  rintro e w11 ⟨rfl, h11⟩
  have T11 := hid h11
  clear h11 B10 H10 x0 xf0 x1 xf1
  have B11 : Hid (Things W (w11.alloc (.cells #[.int .i64 0, .int .u64 0, .int .i64 0, .int .i64 0, .string ⟨#[]⟩, .int .i64 48] 38)) (tnl x aw8 [Lv (some ⟨w2.heap.size, 0, none⟩) [0], Blk w6.heap.size (.cells #[.int .i64 0, .int .u64 awx, .int .i64 393216, .int .i64 0, .string ⟨#[]⟩, .int .i64 48] 38 (0, 0)), Blk (w6.heap.size + 1) (.cells #[.int .i64 0, .int .u64 awy, .int .i64 393264, .int .i64 0, .string ⟨#[]⟩, .int .i64 96] 38 (0, 0)), Blk (w6.heap.size + 1 + 1) (.cells #[.int .i64 3, .int .u64 0, .int .i64 0, .int .i64 0, .string ⟨#[]⟩, .int .i64 96] 38 (0, 0)), Blk w7.heap.size (.cells #[.int .i64 0, .int .u64 awx, .int .i64 393216, .int .i64 0, .string ⟨#[]⟩, .int .i64 96] 38 (0, 0)), Blk w8.heap.size (.cells #[.int .i64 3, .int .u64 0, .int .i64 0, .int .i64 0, .string ⟨#[]⟩, .int .i64 96] 38 (0, 0)), Blk w9.heap.size (.cells #[.int .i64 0, .int .u64 0, .int .i64 0, .int .i64 0, .string ⟨#[]⟩, .int .i64 96] 38 (0, 0)), Blk w10.heap.size (.cells #[.int .i64 0, .int .u64 0, .int .i64 0, .int .i64 0, .string ⟨#[0, 97, 98]⟩, .int .i64 96] 38 (0, 0)), Blk w11.heap.size (.cells #[.int .i64 0, .int .u64 0, .int .i64 0, .int .i64 0, .string ⟨#[]⟩, .int .i64 48] 38 (0, 0))])) := T11.out.blk (.cells #[.int .i64 0, .int .u64 0, .int .i64 0, .int .i64 0, .string ⟨#[]⟩, .int .i64 48] 38)
  clear T11
  have y6_1 := box_cellT (B11.out.cells 6 rfl) 1 rfl
  have y6_2 := box_cellT (B11.out.cells 6 rfl) 2 rfl
  have y6_5 := box_cellT (B11.out.cells 6 rfl) 5 rfl
  have y7_5 := box_cellT (B11.out.cells 7 rfl) 5 rfl
  have y8_0 := box_cellT (B11.out.cells 8 rfl) 0 rfl
  have y9_0 := box_cellT (B11.out.cells 9 rfl) 0 rfl
  have y9_1 := box_cellT (B11.out.cells 9 rfl) 1 rfl
  have y10_0 := box_cellT (B11.out.cells 10 rfl) 0 rfl
  have y11_0 := box_cellT (B11.out.cells 11 rfl) 0 rfl
  have y12_4 := box_cellT (B11.out.cells 12 rfl) 4 rfl
  have T12 := hid B11.out.nw
  clear B11
  go_wp2
  go_ret
  exact ⟨by simp, T12.out⟩
end Go.Proofs.YtioplfbkfokkfaaGreatDoor

namespace Go.Proofs.YtioplfbkfokkfaaGreatDoor
open Go.RowKit
open An

theorem min_is (P : Program) (x y m : Int) (h : m = min x y) : ∀ ts t w, (Builtin.min_ ts t #[.int .i64 x, .int .i64 y]).run P w = .ok (.int .i64 m) w := by
  intro ts t w
  rw [run_min_int2, show (if y < x then y else x) = m by rw [h]; split <;> omega]
/-- A call: kind, numbers, handle, data, window. -/
structure O18 where
  kd : Int
  n : Int
  m : Int
  pk : Int
  tu : Int
  d : ByteArray
  ad : Option Addr
  cap : Nat
  W : List Int
def O18.cs (o : O18) : Array Value := #[.int .i64 o.kd, .int .i64 o.n, .int .i64 o.m, .int .i64 o.pk, .int .u64 o.tu, .string o.d, .slice o.ad o.W.length o.cap]
structure OpR18 (w : World) (o : O18) : Prop where
  kd : I64 o.kd
  n : I64 o.n
  m : I64 o.m
  pk : I64 o.pk
  tu : 0 ≤ o.tu ∧ o.tu ≤ 18446744073709551615
  d : o.d.size ≤ maxLen
  W : NumsAt w o.ad o.W
  lW : o.W.length ≤ 17592186044416
theorem OpR18.fr {w w' : World} {o : O18} (h : OpR18 w o) (f : Fr (fun _ => False) w w') : OpR18 w' o := ⟨h.kd, h.n, h.m, h.pk, h.tu, h.d, h.W.fr f, h.lW⟩
/-- Calls that lie where a slice says. -/
def OpsT (w : World) (ad : Option Addr) (l : List O18) : Prop := ∀ i (h : i < l.length), ∃ b off, ad = some ⟨b, off, none⟩ ∧ b < w.heap.size ∧ w.cell? ⟨b, off + i * 7, none⟩ = some (.int .i64 l[i].kd) ∧ w.cell? ⟨b, off + i * 7 + 1, none⟩ = some (.int .i64 l[i].n) ∧ w.cell? ⟨b, off + i * 7 + 2, none⟩ = some (.int .i64 l[i].m) ∧ w.cell? ⟨b, off + i * 7 + 3, none⟩ = some (.int .i64 l[i].pk) ∧ w.cell? ⟨b, off + i * 7 + 4, none⟩ = some (.int .u64 l[i].tu) ∧ w.cell? ⟨b, off + i * 7 + 5, none⟩ = some (.string l[i].d) ∧ w.cell? ⟨b, off + i * 7 + 6, none⟩ = some (.slice l[i].ad l[i].W.length l[i].cap) ∧ OpR18 w l[i]
theorem OpsT.fr {w w' : World} {ad : Option Addr} {l : List O18} (h : OpsT w ad l) (hf : Fr (fun _ => False) w w') : OpsT w' ad l := fun i hi => by
  obtain ⟨b, off, h1, h2, h3, h4, h5, h6, h7, h8, h9, h10⟩ := h i hi
  have k : ∀ j, w'.cell? ⟨b, j, none⟩ = w.cell? ⟨b, j, none⟩ := fun j => World.cell?_of_block (hf.block b h2 (fun h => h))
  exact ⟨b, off, h1, by have := hf.size; omega, (k _).trans h3, (k _).trans h4, (k _).trans h5, (k _).trans h6, (k _).trans h7, (k _).trans h8, (k _).trans h9, h10.fr hf⟩
/-- Pages and colours, quota, id, serial, window. -/
structure C18 where
  P : Int
  K : Int
  q : Int
  id : Int
  se : Int
  ad : Option Addr
  cap : Nat
  W : List Int
def C18.cs (c : C18) : Array Value := #[.int .i64 c.P, .int .i64 c.K, .int .i64 c.q, .int .i64 c.id, .int .i64 c.se, .slice c.ad c.W.length c.cap]
/-- It lies right. -/
structure CfgT (w : World) (c : C18) : Prop where
  p : I64 c.P
  k : I64 c.K
  q : I64 c.q
  id : I64 c.id
  se : I64 c.se
  W : NumsAt w c.ad c.W
  lW : c.W.length ≤ 17592186044416
theorem CfgT.fr {w w' : World} {c : C18} (h : CfgT w c) (f : Fr (fun _ => False) w w') : CfgT w' c := ⟨h.p, h.k, h.q, h.id, h.se, h.W.fr f, h.lW⟩
/-- What isn't long. -/
structure Short18 (c : C18) (l : List O18) : Prop where
  win : l ≠ [] → c.W.length ≤ 2000
  len : l.length ≤ 150
  ops : ∀ i (hi : i < l.length), l[i].W.length ≤ 2000 ∧ l[i].d.size ≤ 40000
  P : c.P ≤ 512
/-- What 'long' answers. -/
def LongR (c : C18) (l : List O18) (e : Ending) : Prop := ∃ b : Bool, e = .returned (.bool b) ∧ (b = false → Short18 c l)
set_option maxRecDepth 20000 in
set_option maxHeartbeats 2000000 in
theorem long_any {w : World} {ad : Option Addr} {cap : Nat} {l : List O18} {c : C18} (h : OpsT w ad l) (hc : CfgT w c) (hmax : l.length ≤ maxLen) : Calls Tryz.prog 5 #[.agg c.cs, .slice ad l.length cap] w fun e w' => LongR c l e ∧ Fr (fun _ => False) w w' := by
  have HO := hid h
  have la := hc.lW
  obtain ⟨p1, p2⟩ := hc.p
  clear h hc
  unfold maxLen at hmax
  unfold C18.cs
  obtain ⟨P, K, q, id, se, ad0, cap0, W⟩ := c
  simp only at la p1 p2 ⊢
  have HL : Hid ((l ≠ [] → W.length ≤ 2000) → (∀ i (hi : i < l.length), l[i].W.length ≤ 2000 ∧ l[i].d.size ≤ 40000) → l.length ≤ 150 → P ≤ 512 → Short18 ⟨P, K, q, id, se, ad0, cap0, W⟩ l) := fun a b c d => ⟨a, c, b, d⟩
  generalize W.length = nA at *
  go_enter Tryz.func5, Tryz.ntmps5
  have HB : Hid (∀ wr, Fr (fun _ => False) (w.alloc (.cells #[.int .i64 P, .int .i64 K, .int .i64 q, .int .i64 id, .int .i64 se, .slice ad0 nA cap0] 26)) wr → wr.cell? ⟨w.heap.size, 0, none⟩ = some (.int .i64 P)) := fun wr f => by
    rw [World.cell?_of_block (f.block w.heap.size (by simp) fun h => h)]
    unfold World.cell?
    rw [heap_alloc_new]
    rfl
  have HF0 : Hid (Fr (fun _ => False) (w.alloc (.cells #[.int .i64 P, .int .i64 K, .int .i64 q, .int .i64 id, .int .i64 se, .slice ad0 nA cap0] 26)) (w.alloc (.cells #[.int .i64 P, .int .i64 K, .int .i64 q, .int .i64 id, .int .i64 se, .slice ad0 nA cap0] 26))) := Fr.refl _ _
  have HW : Hid (∀ wr, Fr (fun _ => False) (w.alloc (.cells #[.int .i64 P, .int .i64 K, .int .i64 q, .int .i64 id, .int .i64 se, .slice ad0 nA cap0] 26)) wr → Fr (fun _ => False) w wr) := fun wr f => Fr.trans ((Fr.refl _ _).alloc _) f
  go_wp2
  generalize w.alloc (.cells #[.int .i64 P, .int .i64 K, .int .i64 q, .int .i64 id, .int .i64 se, .slice ad0 nA cap0] 26) = w0 at *
  go_loopw [5, 13] (fun n i wr => ∃ (j N : Nat), j ≤ l.length ∧ i = .int .i64 j ∧ n = .int .i64 N ∧ N ≤ 17592186044416 + 2000 * j ∧ Hid (nA ≤ N ∧ (0 < j → N ≤ 2000) ∧ ∀ k (hk : k < l.length), k < j → l[k].W.length ≤ 2000 ∧ l[k].d.size ≤ 40000) ∧ Hid (Fr (fun _ => False) w0 wr)) (fun _ i _ => l.length - (intOf i).toNat)
  case atStart => exact ⟨0, nA, by omega, rfl, by simp, by omega, ⟨by omega, fun e => by omega, fun k _ hk => by omega⟩, HF0⟩
  case round =>
    obtain ⟨j, N, hj, rfl, rfl, hN, HK, HF⟩ := hrel
    have hc0 := HB.out _ HF.out
    by_cases hlt : j < l.length
    · obtain ⟨bb, off, rfl, hbb, hc1, hc2, hc3, hc4, hc5, hc6, hc7, hR⟩ := HO.out.fr (HW.out _ HF.out) j hlt
      have hwl := hR.lW
      have hdl := hR.d
      clear hR
      generalize hk : l[j] = o at hc1 hc2 hc3 hc4 hc5 hc6 hc7 hwl hdl
      obtain ⟨kd, n, mm, pk, tu, ds, oad, ocap, oW⟩ := o
      simp only at hc1 hc2 hc3 hc4 hc5 hc6 hc7 hwl hdl
      unfold maxLen at hdl
      have HS : Hid (l[j].W.length = oW.length ∧ l[j].d.size = ds.size) := by rw [hk]; exact ⟨rfl, rfl⟩
      have HF2 := hid (HF.out.alloc (.cells #[.int .i64 kd, .int .i64 n, .int .i64 mm, .int .i64 pk, .int .u64 tu, .string ds, .slice oad oW.length ocap] 29))
      clear hk HF hc0
      generalize oW.length = m at *
      obtain ⟨u, hu⟩ : ∃ u : Nat, u = ds.size / 16 := ⟨_, rfl⟩
      obtain ⟨v, hv⟩ : ∃ v : Nat, v = min u 1048576 := ⟨_, rfl⟩
      have d0 : ((ds.size : Nat) : Int).tdiv 16 = (u : Int) := by rw [Int.tdiv_eq_ediv_of_nonneg (by omega)]; omega
      have d1 := min_is Tryz.prog (u : Int) 1048576 v (by omega)
      have r0 : IntKind.i64.wrap (u : Int) = u := by rw [IntKind.wrap_i64]; omega
      have HV := hid (And.intro hu hv)
      have hv2 : v ≤ 1048576 := by omega
      have r1 : IntKind.i64.wrap (4 + (m : Int)) = 4 + m := by rw [IntKind.wrap_i64]; omega
      have r3 : IntKind.i64.wrap (4 + (m : Int) + v) = 4 + m + v := by rw [IntKind.wrap_i64]; omega
      have hN2 : N ≤ 17592186044416 + 2000 ∨ True := .inr trivial
      clear hu hv
      by_cases hbig : 2000 < N
      · have hj0 : j = 0 := by
          by_cases e : j = 0
          · exact e
          · have := HK.out.2.1 (by omega); omega
        subst hj0
        have r2 : IntKind.i64.wrap ((N : Int) + (4 + m + v)) = N + (4 + m + v) := by rw [IntKind.wrap_i64]; omega
        have hb : (2000 : Int) < N + (4 + m + v) := by omega
        clear HK HO HB hN hN2
        simp only [Nat.zero_mul, Nat.add_zero] at hc1 hc2 hc3 hc4 hc5 hc6 hc7
        go_wp2
        go_ret
        exact ⟨⟨true, by simp, fun e => by cases e⟩, HW.out _ HF2.out⟩
      · have r2 : IntKind.i64.wrap ((N : Int) + (4 + m + v)) = N + (4 + m + v) := by rw [IntKind.wrap_i64]; omega
        by_cases hb : (2000 : Int) < N + (4 + m + v)
        · clear HK HO HB hN hN2
          go_wp2
          go_ret
          exact ⟨⟨true, by simp, fun e => by cases e⟩, HW.out _ HF2.out⟩
        · have hb2 : (N : Int) + (4 + m + v) ≤ 2000 := by omega
          clear HO HB hN2
          go_wp2
          go_roundw
          case rel =>
            refine ⟨j + 1, N + (4 + m + v), by omega, by go_num, by go_num, by omega, ⟨by have := HK.out.1; omega, fun _ => by omega, fun k hk hkj => ?_⟩, HF2⟩
            by_cases e : k = j
            · subst e
              have h1 := HS.out
              have h2 := HV.out
              omega
            · exact HK.out.2.2 k hk (by omega)
          case measure => simp [intOf]; omega
    · obtain rfl : l.length = j := by omega
      by_cases h1 : (150 : Int) < l.length
      · go_wp2
        go_ret
        exact ⟨⟨true, by simp, fun e => by cases e⟩, HW.out _ HF.out⟩
      · have h2 : (l.length : Int) ≤ 150 := by omega
        by_cases h3 : (512 : Int) < P
        · go_wp2
          go_ret
          exact ⟨⟨true, by simp, fun e => by cases e⟩, HW.out _ HF.out⟩
        · have h4 : P ≤ 512 := by omega
          go_wp2
          go_ret
          refine ⟨⟨false, by simp, fun _ => HL.out (fun e => ?_) (fun i hi => HK.out.2.2 i hi hi) (by omega) h4⟩, HW.out _ HF.out⟩
          have h5 : 0 < l.length := List.length_pos_iff.2 e
          have := HK.out.2.1 h5
          have := HK.out.1
          omega
end Go.Proofs.YtioplfbkfokkfaaGreatDoor

namespace Go.Proofs.YtioplfbkfokkfaaGreatDoor
open Go.RowKit
open An

theorem app_none {P : Program} {w : World} (t ty e : TypeId) (i : TypeInfo) (ht : P.underlying t = some (.slice e)) (hi : P.info? e = some i) (a : Addr) (ad : Option Addr) (c : Nat) :
    (Builtin.append_ #[t, t] ty #[.slice (some a) 0 0, .slice ad 0 c]).run P w = .ok (.slice (some a) 0 0) w := by
  cases ad <;> simp [Builtin.append_, run_underlying ht, sizeOf, typeInfo, hi, Builtin.lenOf, Builtin.firstCells, loadCells, loadCellsFrom, storeCells]
/-- What is laid anew. -/
theorem run_dup {w : World} {ad : Option Addr} {l : List Int} (ty : TypeId) (c : Nat) (hl : NumsAt w ad l) (hn : l.length ≤ 17592186044416) : ∃ ad' cap' w', (Builtin.append_ #[24, 24] ty #[.slice (some ⟨w.heap.size, 0, none⟩) 0 0, .slice ad l.length c]).run Tryz.prog (w.alloc (.cells #[] 3)) = .ok (.slice ad' l.length cap') w' ∧ NumsAt w' ad' l ∧ Fr (fun _ => False) w w' ∧ ∀ b off, ad' = some ⟨b, off, none⟩ → w.heap.size ≤ b := by
  obtain ⟨i0, hi, hz0, hz1, hz2⟩ := info_parts Tryz.infoInt
  have f0 : Fr (fun _ => False) w (w.alloc (.cells #[] 3)) := (Fr.refl _ _).alloc _
  cases hL : l with
  | nil =>
    refine ⟨_, _, _, app_none _ _ _ i0 Tryz.underlying24 hi _ ad c, nums_none _ _, f0, fun b off e => ?_⟩
    simp only [Option.some.injEq, Addr.mk.injEq] at e
    omega
  | cons x r =>
    rw [← hL]
    have h0 : 0 < l.length := by rw [hL]; simp
    obtain ⟨B, off, rfl, hB, _⟩ := hl 0 h0
    have hl' := hl.fr f0
    obtain ⟨g, cap, w', hr, h2, h3, h4⟩ := run_append_sep (P := Tryz.prog) (w.alloc (.cells #[] 3)) w.heap.size 24 ty 3 i0 (.int .i64 0) 1 8 Tryz.underlying24 hi hz0 hz1 hz2 rfl (by decide) (.slice (some ⟨w.heap.size, 0, none⟩) 0 0) 0 [] ⟨by simp, .inr ⟨w.heap.size, 0, #[], rfl, Nat.le_refl _, heap_alloc_new w _, Nat.le_refl _, by unfold maxLen; omega, by simp, by simp⟩⟩ ⟨B, off, none⟩ l.length c h0 (ic l) (by rw [ic_length]; simp) (fun j u hj => by
        have hj2 : j < l.length := by have := (List.getElem?_eq_some_iff.1 hj).1; simpa [ic] using this
        obtain ⟨b, off', h1, h2, h3⟩ := hl' j hj2
        cases h1
        rw [add_plain, h3, ← hj]
        simp [ic, hj2]) (ic_one l) (by unfold maxLen; omega) (by omega) (by simp)
    rw [Nat.zero_add] at hr h2
    rw [List.nil_append] at h2
    refine ⟨_, _, w', hr, nums_row h2, ?_, fun b off e => ?_⟩
    · refine Fr.new (Fr.grown (S := fun i => w.heap.size ≤ i) ((Fr.refl _ _).alloc _) h3 fun k e => .inl ?_)
      simp only [Value.ownBlock, Option.some.injEq] at e
      omega
    · simp only [Option.some.injEq, Addr.mk.injEq] at e
      have := (h2.lt g rfl).1
      omega
theorem app_arm {P : Program} {w w' : World} {ops : Array Oper} {o : Oper} {a : Act} {K : Act → World → Prop} {Q : Exit → Act → World → Prop} (hgd : o.guard = none) (s x : Operand) (t u : TypeId) (ho : o.op = .call { callee := .builtin .append, args := #[s, x], argTypes := #[t, u] }) {y z v : Value} (hs : a.eval s = y) (hx : a.eval x = z)
    (hrun : (Builtin.append_ #[t, u] o.type #[y, z]).run P w = .ok v w') (hK : K (a.put o.dst v) w') : if Region.wanted o (yielded ops a.tmps) = true then o.wp P a w K Q else K (a.put o.dst undef) w := by
  have hw : Region.wanted o (yielded ops a.tmps) = true := by unfold Region.wanted; rw [hgd]
  rw [if_pos hw]
  unfold Oper.wp
  simp [execOp, ho, resolve, invoke, builtin, hs, hx, hrun, Result.andThen]
  exact hK
end Go.Proofs.YtioplfbkfokkfaaGreatDoor

namespace Go.Proofs.YtioplfbkfokkfaaGreatDoor
open Go.RowKit
open An

section
variable {W w : World} {ts : List (World → (Nat → Prop) → Prop)}
/-- The first one is forgotten. -/
theorem Things.tail {P : World → (Nat → Prop) → Prop} (h : Things W w (P :: ts)) : Things W w ts := by
  have h2 : Things W w (ts ++ [P]) := h.order (fun j => if j = 0 then ts.length else j - 1) (fun j => if j = ts.length then 0 else j + 1) (fun j hj => by
    simp only [List.length_cons, List.length_append, List.length_nil] at hj ⊢
    by_cases h0 : j = 0
    · simp [h0]
    · simp only [if_neg h0]
      refine ⟨by omega, ?_⟩
      rw [if_neg (by omega)]
      omega) fun j hj => by
    simp only [List.length_cons, List.length_append, List.length_nil] at hj ⊢
    by_cases h0 : j = ts.length
    · subst h0
      simp
    · simp only [if_neg h0]
      refine ⟨by omega, by simp, ?_⟩
      rw [List.getElem?_append_left (by omega)]
      simp
  exact Things.less h2
end
end Go.Proofs.YtioplfbkfokkfaaGreatDoor
