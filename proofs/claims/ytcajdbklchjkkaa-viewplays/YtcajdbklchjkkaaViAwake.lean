/-
  The law's own answers that the document fixes.
-/
import Derived.Test.YtcajdbklchjkkaaViState
namespace Go.Proofs.Ytcajdbklchjkkaa
open Go.RowKit
open An

def T2 : Tb := [(256, 7), (257, 3)]
theorem T2_ok : TbOk T2 := ⟨by decide, by decide, by decide⟩
theorem aw_map : tbM [] 256 7 = [(256, 7)] ∧ tbME [] 256 7 = 0 ∧ tbM [(256, 7)] 257 3 = T2 ∧ tbME [(256, 7)] 257 3 = 0 := by decide
theorem T1_ok : TbOk [(256, 7)] := ⟨by decide, by decide, by decide⟩
theorem aw_w : piL T2 131582 4 = [(4094, 2, false), (1536, 2, false)] ∧ piE T2 131582 4 = 0 := by decide
theorem aw_r : piL T2 131581 6 = [(4093, 3, false), (1536, 3, false)] ∧ piE T2 131581 6 = 0 := by decide
theorem aw_n : piE T2 132090 10 = 4 := by decide
/-- The arena's bytes behind the Write. -/
def bs2 : List UInt8 := over (over (List.replicate 8192 0) 4094 [97, 98]) 1536 [99, 100]
theorem bs2_len : bs2.length = 8192 := by
  unfold bs2
  rw [over_length _ _ _ (by rw [over_length _ _ _ (by rw [List.length_replicate]; decide), List.length_replicate]; decide), over_length _ _ _ (by rw [List.length_replicate]; decide), List.length_replicate]
theorem bs2_get (i : Nat) (h : i < 8192) : bs2[i]? = some (if i = 1536 then 99 else if i = 1537 then 100 else if i = 4094 then 97 else if i = 4095 then 98 else 0) := by
  unfold bs2
  rw [over_get? _ _ _ (by rw [over_length _ _ _ (by rw [List.length_replicate]; decide), List.length_replicate]; decide), over_get? _ _ _ (by rw [List.length_replicate]; decide), List.getElem?_replicate, if_pos h]
  simp only [List.length_cons, List.length_nil]
  by_cases h1 : i < 1536
  · rw [if_pos h1, if_pos (by omega), if_neg (by omega), if_neg (by omega), if_neg (by omega), if_neg (by omega)]
  rw [if_neg h1]
  by_cases h2 : i < 1536 + (0 + 1 + 1)
  · rw [if_pos h2]
    rcases (by omega : i = 1536 ∨ i = 1537) with rfl | rfl <;> rfl
  rw [if_neg h2]
  by_cases h3 : i < 4094
  · rw [if_pos h3, if_neg (by omega), if_neg (by omega), if_neg (by omega), if_neg (by omega)]
  rw [if_neg h3]
  by_cases h4 : i < 4094 + (0 + 1 + 1)
  · rw [if_pos h4]
    rcases (by omega : i = 4094 ∨ i = 4095) with rfl | rfl <;> rfl
  · rw [if_neg h4, if_neg (by omega), if_neg (by omega), if_neg (by omega), if_neg (by omega)]
theorem rd_two {bs : List UInt8} {p : Nat} {x y : UInt8} (h0 : bs[p]? = some x) (h1 : bs[p + 1]? = some y) : (bs.drop p).take 2 = [x, y] := by
  apply List.ext_getElem?
  intro i
  rcases (by omega : i = 0 ∨ i = 1 ∨ 2 ≤ i) with rfl | rfl | h
  · rw [List.getElem?_take_of_lt (by omega), List.getElem?_drop]; exact h0
  · rw [List.getElem?_take_of_lt (by omega), List.getElem?_drop]; exact h1
  · rw [List.getElem?_eq_none (by simp; omega), List.getElem?_eq_none (by simp; omega)]
theorem rd_three {bs : List UInt8} {p : Nat} {x y z : UInt8} (h0 : bs[p]? = some x) (h1 : bs[p + 1]? = some y) (h2 : bs[p + 2]? = some z) : (bs.drop p).take 3 = [x, y, z] := by
  apply List.ext_getElem?
  intro i
  rcases (by omega : i = 0 ∨ i = 1 ∨ i = 2 ∨ 3 ≤ i) with rfl | rfl | rfl | h
  · rw [List.getElem?_take_of_lt (by omega), List.getElem?_drop]; exact h0
  · rw [List.getElem?_take_of_lt (by omega), List.getElem?_drop]; exact h1
  · rw [List.getElem?_take_of_lt (by omega), List.getElem?_drop]; exact h2
  · rw [List.getElem?_eq_none (by simp; omega), List.getElem?_eq_none (by simp; omega)]
theorem aw_ab : (bs2.drop 4094).take 2 = [97, 98] ∧ (bs2.drop 1536).take 2 = [99, 100] := ⟨rd_two (bs2_get 4094 (by decide)) (bs2_get 4095 (by decide)), rd_two (bs2_get 1536 (by decide)) (bs2_get 1537 (by decide))⟩
theorem aw_read : vrV T2 bs2 131581 6 = [0, 97, 98, 99, 100, 0] ∧ vwE T2 bs2.length 131581 6 = 0 := by
  have h : VwOk T2 bs2.length 131581 6 := ⟨aw_r.2, by rw [aw_r.1, bs2_len]; decide⟩
  unfold vrV vwE
  rw [if_pos h, if_pos h, aw_r.1]
  refine ⟨?_, rfl⟩
  show (bs2.drop 4093).take 3 ++ ((bs2.drop 1536).take 3 ++ []) = _
  rw [rd_three (bs2_get 4093 (by decide)) (bs2_get 4094 (by decide)) (bs2_get 4095 (by decide)), rd_three (bs2_get 1536 (by decide)) (bs2_get 1537 (by decide)) (bs2_get 1538 (by decide))]
  rfl
theorem aw_write : vwB T2 (List.replicate 8192 0) 131582 [97, 98, 99, 100] = bs2 ∧ vwE T2 (List.replicate 8192 (0 : UInt8)).length 131582 4 = 0 := by
  have h : VwOk T2 (List.replicate 8192 (0 : UInt8)).length 131582 4 := ⟨aw_w.2, by rw [aw_w.1, List.length_replicate]; decide⟩
  unfold vwB vwE
  rw [if_pos h]
  refine ⟨?_, rfl⟩
  show (if VwOk T2 (List.replicate 8192 (0 : UInt8)).length 131582 4 then wrB (List.replicate 8192 0) (piL T2 131582 4) [97, 98, 99, 100] else _) = _
  rw [if_pos h, aw_w.1]
  rfl
theorem aw_none : vwE T2 bs2.length 132090 10 = 4 := if_neg fun h => by have := h.1; rw [aw_n] at this; cases this
/-- An arena and a table, with so many touches at most. -/
def Vw (W w : World) (a t : Nat) (bs : List UInt8) (T : Tb) (n : Nat) : Prop := ∃ ss, ss.length ≤ n ∧ Things W w [Am 77 a bs ss, Tm t T]
theorem tch_two (ss : List Sp) (T : Tb) (N : Nat) (x n : Int) (h : (piL T x n).length ≤ 2) : (vrT T N ss x n).length ≤ ss.length + 2 ∧ (vwT T N ss x n).length ≤ ss.length + 2 := by
  unfold vrT vwT
  constructor <;> (split <;> simp [tch_length] <;> omega)
theorem noted_len (ss : List Sp) (x n : Int) (b : Bool) : (noted ss x n b).length ≤ ss.length + 1 := by unfold noted; split <;> simp
set_option maxRecDepth 20000 in
set_option maxHeartbeats 2000000 in
theorem awake_any (w : World) : Calls Try.prog 11 #[] w fun e w' => e = .returned (.bool true) ∧ Fr (fun _ => False) w w' := by
  have HA : Hid (∀ w1, Things w w1 [] → Calls Try.prog 9 #[.int .i64 8192] w1 fun e w' => ∃ a, e = .returned (.tuple #[.pointer (some ⟨a, 0, none⟩), .int .i64 0]) ∧ Things w w' [Am 77 a (List.replicate 8192 0) []]) := fun w1 h => ga_new h 8192 (by decide)
  have HT : Hid (∀ w1 a, Things w w1 [Am 77 a (List.replicate 8192 0) []] → Calls Try.prog 8 #[] w1 fun e w' => ∃ t, e = .returned (.pointer (some ⟨t, 0, none⟩)) ∧ Things w w' [Am 77 a (List.replicate 8192 0) [], Tm t []]) := fun w1 a h => g_new h
  have HM1 : Hid (∀ w1 a t, Things w w1 [Am 77 a (List.replicate 8192 0) [], Tm t []] → Calls Try.prog 17 #[.pointer (some ⟨t, 0, none⟩), .int .i64 256, .int .i64 7] w1 fun e w' => e = .returned (.int .i64 0) ∧ Things w w' [Am 77 a (List.replicate 8192 0) [], Tm t [(256, 7)]]) := fun w1 a t h => (g_map h 1 rfl TbOk.none (v := 256) (p := 7) ⟨by decide, by decide⟩ ⟨by decide, by decide⟩).mono fun e w' ⟨he, h2⟩ => ⟨by rw [he, aw_map.2.1], by rw [aw_map.1] at h2; exact h2⟩
  have HM2 : Hid (∀ w1 a t, Things w w1 [Am 77 a (List.replicate 8192 0) [], Tm t [(256, 7)]] → Calls Try.prog 17 #[.pointer (some ⟨t, 0, none⟩), .int .i64 257, .int .i64 3] w1 fun e w' => e = .returned (.int .i64 0) ∧ Things w w' [Am 77 a (List.replicate 8192 0) [], Tm t T2]) := fun w1 a t h => (g_map h 1 rfl T1_ok (v := 257) (p := 3) ⟨by decide, by decide⟩ ⟨by decide, by decide⟩).mono fun e w' ⟨he, h2⟩ => ⟨by rw [he, aw_map.2.2.2], by rw [aw_map.2.2.1] at h2; exact h2⟩
  have HW : Hid (∀ w1 a t, Things w w1 [Am 77 a (List.replicate 8192 0) [], Tm t T2] → Calls Try.prog 19 #[.pointer (some ⟨a, 0, none⟩), .pointer (some ⟨t, 0, none⟩), .int .i64 131582, .string ⟨#[97, 98, 99, 100]⟩] w1 fun e w' => e = .returned (.int .i64 0) ∧ Vw w w' a t bs2 T2 2) := fun w1 a t h => (gv_write h 0 1 (by decide) rfl rfl T2_ok (x := 131582) ⟨by decide, by decide⟩ ⟨#[97, 98, 99, 100]⟩ (by decide) (by decide)).mono fun e w' ⟨he, h2⟩ => ⟨he.trans (congrArg (fun v => Ending.returned (.int .i64 v)) aw_write.2), _, (tch_two _ _ _ _ _ (by show (piL T2 131582 4).length ≤ 2; rw [aw_w.1]; decide)).2, by have e : vwB T2 (List.replicate 8192 0) 131582 (ByteArray.mk #[97, 98, 99, 100]).data.toList = bs2 := aw_write.1; rw [e] at h2; exact h2⟩
  have HR1 : Hid (∀ w1 a t n, Vw w w1 a t bs2 T2 n → n ≤ 10 → Calls Try.prog 15 #[.pointer (some ⟨a, 0, none⟩), .int .i64 4094, .int .i64 2] w1 fun e w' => e = .returned (.tuple #[.string ⟨#[97, 98]⟩, .int .i64 0]) ∧ Vw w w' a t bs2 T2 (n + 1)) := fun w1 a t n ⟨ss, hs, h⟩ hn => (ga_read h 0 rfl 4094 2 (by rw [bs2_len]; decide) (by omega)).mono fun e w' ⟨he, h2⟩ => ⟨by rw [he, aw_ab.1], _, Nat.le_trans (noted_len _ _ _ _) (by omega), h2⟩
  have HR2 : Hid (∀ w1 a t n, Vw w w1 a t bs2 T2 n → n ≤ 10 → Calls Try.prog 15 #[.pointer (some ⟨a, 0, none⟩), .int .i64 1536, .int .i64 2] w1 fun e w' => e = .returned (.tuple #[.string ⟨#[99, 100]⟩, .int .i64 0]) ∧ Vw w w' a t bs2 T2 (n + 1)) := fun w1 a t n ⟨ss, hs, h⟩ hn => (ga_read h 0 rfl 1536 2 (by rw [bs2_len]; decide) (by omega)).mono fun e w' ⟨he, h2⟩ => ⟨by rw [he, aw_ab.2], _, Nat.le_trans (noted_len _ _ _ _) (by omega), h2⟩
  have HV1 : Hid (∀ w1 a t n, Vw w w1 a t bs2 T2 n → n ≤ 10 → Calls Try.prog 20 #[.pointer (some ⟨a, 0, none⟩), .pointer (some ⟨t, 0, none⟩), .int .i64 131581, .int .i64 6] w1 fun e w' => e = .returned (.tuple #[.string ⟨#[0, 97, 98, 99, 100, 0]⟩, .int .i64 0]) ∧ Vw w w' a t bs2 T2 (n + 2)) := fun w1 a t n ⟨ss, hs, h⟩ hn => (gv_read h 0 1 (by decide) rfl rfl T2_ok (x := 131581) (n := 6) ⟨by decide, by decide⟩ ⟨by decide, by decide⟩ (by decide) (by omega)).mono fun e w' ⟨he, h2⟩ => ⟨by rw [he, aw_read.1, aw_read.2], _, Nat.le_trans (tch_two _ _ _ _ _ (by rw [aw_r.1]; decide)).1 (by omega), h2⟩
  have HV2 : Hid (∀ w1 a t n, Vw w w1 a t bs2 T2 n → n ≤ 10 → Calls Try.prog 20 #[.pointer (some ⟨a, 0, none⟩), .pointer (some ⟨t, 0, none⟩), .int .i64 132090, .int .i64 10] w1 fun e w' => ∃ s, e = .returned (.tuple #[.string s, .int .i64 4]) ∧ Fr (fun _ => False) w w') := fun w1 a t n ⟨ss, hs, h⟩ hn => (gv_read h 0 1 (by decide) rfl rfl T2_ok (x := 132090) (n := 10) ⟨by decide, by decide⟩ ⟨by decide, by decide⟩ (by decide) (by omega)).mono fun e w' ⟨he, h2⟩ => ⟨_, he.trans (by rw [aw_none]), h2.nw.fr⟩
  have H0 := hid (Things.start (Nw.start w))
  go_enter Try.func11, Try.ntmps11
  go_wp2_with fail
  refine (HA.out _ H0.out).mono ?_
  rintro e w1 ⟨a, rfl, h1⟩
  have H1 := hid h1
  clear h1 H0 HA
  go_wp2_with fail
  refine (HT.out _ _ H1.out).mono ?_
  rintro e w2 ⟨t, rfl, h2⟩
  have H2 := hid h2
  clear h2 H1 HT
  go_wp2_with fail
  refine (HM1.out _ _ _ H2.out).mono ?_
  rintro e w3 ⟨rfl, h3⟩
  have H3 := hid h3
  clear h3 H2 HM1
  go_wp2_with fail
  refine (HM2.out _ _ _ H3.out).mono ?_
  rintro e w4 ⟨rfl, h4⟩
  have H4 := hid h4
  clear h4 H3 HM2
  go_wp2_with fail
  refine (HW.out _ _ _ H4.out).mono ?_
  rintro e w5 ⟨rfl, h5⟩
  have H5 := hid h5
  clear h5 H4 HW
  go_wp2_with fail
  refine (HR1.out _ _ _ _ H5.out (by decide)).mono ?_
  rintro e w6 ⟨rfl, h6⟩
  have H6 := hid h6
  clear h6 H5 HR1
  go_wp2_with fail
  refine (HR2.out _ _ _ _ H6.out (by decide)).mono ?_
  rintro e w7 ⟨rfl, h7⟩
  have H7 := hid h7
  clear h7 H6 HR2
  go_wp2_with fail
  refine (HV1.out _ _ _ _ H7.out (by decide)).mono ?_
  rintro e w8 ⟨rfl, h8⟩
  have H8 := hid h8
  clear h8 H7 HV1
  go_wp2_with fail
  refine (HV2.out _ _ _ _ H8.out (by decide)).mono ?_
  rintro e w9 ⟨s9, rfl, h9⟩
  have H9 := hid h9
  clear h9 H8 HV2
  go_wp2
  go_ret
  exact ⟨by simp, H9.out⟩
end Go.Proofs.Ytcajdbklchjkkaa
