/-
  What the view's 'find' does: the pieces, all of them within the arena, or an error.
-/
import Derived.Test.YtcajdbklchjkkaaViBase
import Derived.Test.YtcajdbklchjkkaaTaCalls
import Derived.Test.YtcajdbklchjkkaaAnMem2
import Derived.Test.YtcajdbklchjkkaaViIn
import Derived.Deep.RegionHeld3
namespace Go.Proofs.Ytcajdbklchjkkaa
open Go.RowKit
open An

theorem pi_bound {T : Tb} (ok : TbOk T) {x n : Int} {k : Nat} (hk : k < (piL T x n).length) : 0 ≤ (piL T x n)[k].1 ∧ (piL T x n)[k].1 ≤ 1000000000 ∧ 1 ≤ (piL T x n)[k].2.1 ∧ (piL T x n)[k].2.1 ≤ 512 := by
  by_cases h : piE T x n = 0
  · obtain ⟨h1, h2⟩ := piE_zero h
    obtain ⟨a1, a2, a3, a4, a5⟩ := (pcs_ok (T := T) (a := x) (by have := h1.2.1; omega) n.toNat _ h2).all k hk
    have := ok.f_range (x / 512 + k)
    omega
  · have := (piE_not h).2
    rw [this] at hk
    simp at hk
/-- The box of a variable that is captured. -/
def abx (a : Nat) : Obj := .cells #[.pointer (some ⟨a, 0, none⟩)] 31 (0, 0)
theorem abxc {w : World} {B a : Nat} (h : w.heap[B]? = some (abx a)) : w.cell? ⟨B, 0, none⟩ = some (.pointer (some ⟨a, 0, none⟩)) := by unfold abx at h; simp [World.cell?, h]
section
variable {w : World} {a t : Nat} {Z Y : Nat → Prop} {bs : List UInt8} {ss : List Sp} {T : Tb}
set_option maxRecDepth 20000 in
set_option maxHeartbeats 1000000 in
theorem f_one (h : Am 77 a bs ss w Z) {B : Nat} (hB : w.heap[B]? = some (abx a)) {p m : Int} (b : Bool) (hp : 0 ≤ p ∧ p ≤ 1000000000 ∧ 1 ≤ m ∧ m ≤ 512) : Calls Try.prog 56 #[.agg #[.int .i64 p, .int .i64 m, .bool b], .pointer (some ⟨B, 0, none⟩)] w fun e w' => e = .returned (.int .i64 (if p + m ≤ bs.length then 0 else 4)) ∧ Fr (fun _ => False) w w' := by
  have hB0 := (Array.getElem?_eq_some_iff.1 hB).1
  have H1 : Hid (∀ w1, Fr (fun _ => False) w w1 → Calls Try.prog 57 #[.pointer (some ⟨a, 0, none⟩)] w1 fun e w' => e = .returned (.int .i64 bs.length) ∧ w' = w1) := fun w1 f => am_size (h.kept f)
  have hle := h.le
  have hF : Fr (fun _ => False) w (w.alloc (.cells #[.int .i64 p, .int .i64 m, .bool b] 65)) := (Fr.refl _ _).alloc _
  have c0 := abxc ((hF.block B hB0 id).trans hB)
  have c1 : (w.alloc (.cells #[.int .i64 p, .int .i64 m, .bool b] 65)).cell? ⟨w.heap.size, 0, none⟩ = some (.int .i64 p) := by simp
  have c2 : (w.alloc (.cells #[.int .i64 p, .int .i64 m, .bool b] 65)).cell? ⟨w.heap.size, 1, none⟩ = some (.int .i64 m) := by simp
  have HF := hid hF
  have hw : IntKind.i64.wrap ((bs.length : Int) - p) = bs.length - p := by rw [IntKind.wrap_i64]; omega
  have hgt : decide (m > (bs.length : Int) - p) = !decide (p + m ≤ (bs.length : Int)) := by
    by_cases e : p + m ≤ (bs.length : Int)
    · simp [e]; omega
    · simp [e]; omega
  clear h hB hF hB0
  generalize hwa : w.alloc (.cells #[.int .i64 p, .int .i64 m, .bool b] 65) = wa at *
  generalize (bs.length : Int) = n at *
  by_cases hn : p + m ≤ n
  · rw [if_pos hn]
    rw [decide_eq_true hn] at hgt
    clear hn
    go_enter Try.func56, Try.ntmps56
    go_wp2_with fail
    go_region_held3 (fun w' => w'.cell? ⟨w.heap.size, 0, none⟩ = some (.int .i64 p) ∧ w'.cell? ⟨w.heap.size, 1, none⟩ = some (.int .i64 m) ∧ w'.cell? ⟨B, 0, none⟩ = some (.pointer (some ⟨a, 0, none⟩))) (first | go_keep | exact ⟨by assumption, by assumption, by assumption⟩) (first | (go_at_call 57; refine (H1.out _ HF.out.drew).mono ?_; rintro e w1 ⟨rfl, rfl⟩))
    go_wp2
    go_ret
    exact ⟨by simp, HF.out.drew⟩
  · rw [if_neg hn]
    rw [decide_eq_false hn] at hgt
    clear hn
    go_enter Try.func56, Try.ntmps56
    go_wp2_with fail
    go_region_held3 (fun w' => w'.cell? ⟨w.heap.size, 0, none⟩ = some (.int .i64 p) ∧ w'.cell? ⟨w.heap.size, 1, none⟩ = some (.int .i64 m) ∧ w'.cell? ⟨B, 0, none⟩ = some (.pointer (some ⟨a, 0, none⟩))) (first | go_keep | exact ⟨by assumption, by assumption, by assumption⟩) (first | (go_at_call 57; refine (H1.out _ HF.out.drew).mono ?_; rintro e w1 ⟨rfl, rfl⟩))
    go_wp2
    go_ret
    exact ⟨by simp, HF.out.drew⟩
theorem vw_yes {N : Nat} {x n : Int} (h1 : piE T x n = 0) (h2 : InAr N (piL T x n)) : vwL T N x n = piL T x n ∧ vwE T N x n = 0 := ⟨if_pos ⟨h1, h2⟩, if_pos ⟨h1, h2⟩⟩
theorem vw_no {N : Nat} {x n : Int} (h : ¬ VwOk T N x n) : vwL T N x n = [] ∧ vwE T N x n = 4 := ⟨if_neg h, if_neg h⟩
/-- All pieces are held against the arena's size. -/
theorem f_all (h : Am 77 a bs ss w Z) {B : Nat} (hB : w.heap[B]? = some (abx a)) (ok : TbOk T) {x n : Int} {ad : Option Addr} {cap : Nat} (hs : SpAt w ad (piL T x n)) (hc : (piL T x n).length ≤ cap) : Calls Try.prog 38 #[.slice ad (piL T x n).length cap, .func (.func 56) #[] #[.pointer (some ⟨B, 0, none⟩)]] w fun e w' => e = .returned (.int .i64 (if InAr bs.length (piL T x n) then 0 else 4)) ∧ Fr (fun _ => False) w w' := by
  refine (over_any (F := 56) (fun k w' => Fr (fun _ => False) w w' ∧ ∀ j (hj : j < (piL T x n).length), j < k → (piL T x n)[j].1 + (piL T x n)[j].2.1 ≤ bs.length) (fun j w' => Fr (fun _ => False) w w' ∧ j = 4 ∧ ¬ InAr bs.length (piL T x n)) (fun k w' hi => hs.fr hi.1) hc (enters_of Try.func56 (by kernel_rfl) rfl) (fun k w' hk hi => ?_) ⟨Fr.refl _ _, fun j _ h => by omega⟩).mono ?_
  · have hB0 := (Array.getElem?_eq_some_iff.1 hB).1
    refine (f_one (h.kept hi.1) ((hi.1.block B hB0 id).trans hB) _ (pi_bound ok hk)).mono ?_
    rintro e w2 ⟨rfl, f⟩
    refine ⟨_, rfl, fun e => ⟨hi.1.trans f, fun j hj hlt => ?_⟩, fun e => ⟨hi.1.trans f, ?_, fun hin => ?_⟩⟩
    · by_cases ej : j = k
      · subst ej
        by_cases e2 : (piL T x n)[j].1 + (piL T x n)[j].2.1 ≤ bs.length
        · exact e2
        · rw [if_neg e2] at e; omega
      · exact hi.2 j hj (by omega)
    · by_cases e2 : (piL T x n)[k].1 + (piL T x n)[k].2.1 ≤ bs.length
      · rw [if_pos e2] at e; exact (e rfl).elim
      · exact if_neg e2
    · rw [if_pos (hin _ (List.getElem_mem hk))] at e
      exact e rfl
  · rintro e w' ⟨j, rfl, h1, h2⟩
    by_cases hj : j = 0
    · subst hj
      obtain ⟨f, hall⟩ := h1 rfl
      have : InAr bs.length (piL T x n) := fun s hs => by
        obtain ⟨j, hj, rfl⟩ := List.getElem_of_mem hs
        exact hall j hj hj
      exact ⟨by rw [if_pos this], f⟩
    · obtain ⟨f, rfl, hno⟩ := h2 hj
      exact ⟨by rw [if_neg hno], f⟩
set_option maxRecDepth 20000 in
set_option maxHeartbeats 1000000 in
theorem v_find (h : Am 77 a bs ss w Z) (k : Tm t T w Y) (ok : TbOk T) {x n : Int} (hx : I64 x) (hn : I64 n) : Calls Try.prog 37 #[.pointer (some ⟨a, 0, none⟩), .pointer (some ⟨t, 0, none⟩), .int .i64 x, .int .i64 n] w fun e w' => ∃ ad cap, e = .returned (.tuple #[.slice ad (vwL T bs.length x n).length cap, .int .i64 (vwE T bs.length x n)]) ∧ SpAt w' ad (vwL T bs.length x n) ∧ (∀ b off, ad = some ⟨b, off, none⟩ → 0 < (vwL T bs.length x n).length → w.heap.size ≤ b) ∧ Fr (fun _ => False) w w' ∧ (vwL T bs.length x n).length ≤ cap := by
  have hF : Fr (fun _ => False) w (w.alloc (abx a)) := (Fr.refl _ _).alloc _
  have H1 := hid (c_pieces_c (k.kept hF) ok hx hn)
  have HB : Hid ((w.alloc (abx a)).heap[w.heap.size]? = some (abx a)) := heap_alloc_new _ _
  have HA := hid h
  have HK := hid ok
  have HF := hid hF
  clear h k ok hx hn hF
  go_enter Try.func37, Try.ntmps37
  go_wp2_with fail
  refine H1.out.mono ?_
  rintro e w1 ⟨ad, cap, rfl, hs, hb, f1, hc⟩
  have f2 := HF.out.trans f1
  have HA1 := hid (f_all (HA.out.kept f2) (B := w.heap.size) ((f1.block w.heap.size (by simp) id).trans HB.out) HK.out hs hc)
  have HS : Hid (SpAt w1 ad (piL T x n) ∧ (∀ b off, ad = some ⟨b, off, none⟩ → 0 < (piL T x n).length → w.heap.size ≤ b) ∧ Fr (fun _ => False) w w1 ∧ (piL T x n).length ≤ cap) := ⟨hs, fun b off e h0 => Nat.le_trans (by simp) (hb b off e h0), f2, hc⟩
  clear hs hb f1 hc f2 H1 HA HF HB HK
  by_cases h0 : piE T x n = 0
  case neg =>
    obtain ⟨e1, e2⟩ := piE_not h0
    obtain ⟨e3, e4⟩ := vw_no (T := T) (N := bs.length) (x := x) (n := n) fun h => h0 h.1
    rw [e1]
    have HE := hid (And.intro e3 e4)
    clear h0 e1 e2 e3 e4
    go_wp2
    go_ret2
    exact ⟨none, 0, by rw [HE.out.1, HE.out.2]; simp, by rw [HE.out.1]; exact SpAt.nil _ _, (fun b off e => by cases e), HS.out.2.2.1, by rw [HE.out.1]; simp⟩
  rw [h0]
  by_cases h1 : InAr bs.length (piL T x n)
  · obtain ⟨e3, e4⟩ := vw_yes h0 h1
    have HV := hid (And.intro e3 e4)
    rw [if_pos h1] at HA1
    clear h0 h1 e3 e4
    generalize piL T x n = L at *
    go_wp2_with fail
    refine HA1.out.mono ?_
    rintro e w2 ⟨rfl, f3⟩
    have HE : Hid (SpAt w2 ad L ∧ Fr (fun _ => False) w w2) := ⟨HS.out.1.fr f3, HS.out.2.2.1.trans f3⟩
    clear HA1 f3
    go_wp2
    go_ret2
    exact ⟨ad, cap, by rw [HV.out.1, HV.out.2]; simp, by rw [HV.out.1]; exact HE.out.1, by rw [HV.out.1]; exact HS.out.2.1, HE.out.2, by rw [HV.out.1]; exact HS.out.2.2.2⟩
  · obtain ⟨e3, e4⟩ := vw_no (T := T) (N := bs.length) (x := x) (n := n) fun h => h1 h.2
    have HV := hid (And.intro e3 e4)
    rw [if_neg h1] at HA1
    clear h0 h1 e3 e4
    generalize piL T x n = L at *
    go_wp2_with fail
    refine HA1.out.mono ?_
    rintro e w2 ⟨rfl, f3⟩
    have HE : Hid (Fr (fun _ => False) w w2) := HS.out.2.2.1.trans f3
    clear HA1 f3 HS
    go_wp2
    go_ret2
    exact ⟨none, 0, by rw [HV.out.1, HV.out.2]; simp, by rw [HV.out.1]; exact SpAt.nil _ _, (fun b off e => by cases e), HE.out, by rw [HV.out.1]; simp⟩
end
end Go.Proofs.Ytcajdbklchjkkaa
