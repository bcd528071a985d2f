/-
  What the document's view answers, and leaves: Copy.
  The law's own 'long'; the arena's touches as a list.
-/
import Derived.Test.YtcajdbklchjkkaaViRefC
import Derived.Test.YtcajdbklchjkkaaViMoves
namespace Go.Proofs.Ytcajdbklchjkkaa
open Go.RowKit
open An

section
variable {W w : World} {ts : List (World → (Nat → Prop) → Prop)} {r base q : Nat} {bs : List UInt8} {ss : List Sp} {T : Tb}
set_option maxRecDepth 20000 in
set_option maxHeartbeats 4000000 in
theorem d_copy (h : Things W w ts) (i j : Nat) (hij : i ≠ j) (hi : ts[i]? = some (Am 51 r bs ss)) (hj : ts[j]? = some (Dt base q T)) (ok : TbOk T) (hbs : bs.length ≤ 2097152) (hss : ss.length ≤ 800000) {x y n : Int} (hn : n ≤ 16384) : Calls Try.prog 28 #[.pointer (some ⟨r, 0, none⟩), .pointer (some ⟨q, 0, none⟩), .int .i64 x, .int .i64 y, .int .i64 n] w fun e w' => e = .returned (.int .i64 (vcE T bs.length x y n)) ∧ Things W w' (ts.set i (Am 51 r (vcB T bs x y n) (vcT T bs.length ss x y n))) := by
  have HP := hid (d_pieces h i j hi hj ok hbs (x := x) hn)
  have HI := hid hi
  by_cases h1 : VwOk T bs.length x n
  case neg =>
    have hc : ¬ VcOk T bs.length x y n := fun hv => h1 hv.1
    have e1 : vwE T bs.length x n = 4 := if_neg h1
    have e2 : vcE T bs.length x y n = 4 := if_neg hc
    have e3 : vcB T bs x y n = bs := if_neg hc
    have e4 : vcT T bs.length ss x y n = ss := if_neg hc
    rw [e2, e3, e4, set_same hi]
    rw [e1] at HP
    clear h hi hj ok h1 hc e1 e2 e3 e4
    go_enter Try.func28, Try.ntmps28
    go_wp2_with fail
    refine HP.out.mono ?_
    rintro e w1 ⟨ad, cap, rfl, h1⟩
    have T1 := hid h1.less
    clear h1 HP
    go_wp2
    go_ret
    exact ⟨by simp, T1.out⟩
  have e1 : vwE T bs.length x n = 0 := if_pos h1
  rw [e1] at HP
  have HR : Hid (∀ w0, Things W w0 ts → Calls Try.prog 25 #[.pointer (some ⟨r, 0, none⟩), .pointer (some ⟨q, 0, none⟩), .int .i64 y, .int .i64 n] w0 fun e w' => e = .returned (.tuple #[.string ⟨(vrV T bs y n).toArray⟩, .int .i64 (vwE T bs.length y n)]) ∧ Things W w' (ts.set i (Am 51 r bs (vrT T bs.length ss y n)))) := fun w0 h0 => d_read h0 i j hi hj ok hbs (by omega) hn
  by_cases h2 : VwOk T bs.length y n
  case neg =>
    have hc : ¬ VcOk T bs.length x y n := fun hv => h2 hv.2
    have e5 : vwE T bs.length y n = 4 := if_neg h2
    have e2 : vcE T bs.length x y n = 4 := if_neg hc
    have e3 : vcB T bs x y n = bs := if_neg hc
    have e4 : vcT T bs.length ss x y n = ss := if_neg hc
    have e6 : vrT T bs.length ss y n = ss := if_neg h2
    rw [e2, e3, e4]
    rw [e5, e6] at HR
    clear h hi hj ok h1 h2 hc e1 e2 e3 e4 e5 e6
    go_enter Try.func28, Try.ntmps28
    go_wp2_with fail
    refine HP.out.mono ?_
    rintro e w1 ⟨ad, cap, rfl, h1⟩
    have T1 := hid h1.less
    clear h1 HP
    go_wp2_with fail
    refine (HR.out _ T1.out).mono ?_
    rintro e w2 ⟨rfl, h2⟩
    have T2 := hid h2
    clear h2 HR T1
    go_wp2
    go_ret
    exact ⟨by simp, T2.out⟩
  have hc : VcOk T bs.length x y n := ⟨h1, h2⟩
  obtain ⟨a1, a2, a3, _⟩ := h2.apt ok
  have hsz : ((ByteArray.mk (vrV T bs y n).toArray).size : Int) = n := by
    have e : vrV T bs y n = rdB bs (piL T y n) := if_pos h2
    show (((vrV T bs y n).toArray.size : Nat) : Int) = n
    rw [e, List.size_toArray, rdB_length a1, a2]
    have := h2.len
    omega
  have e5 : vwE T bs.length y n = 0 := if_pos h2
  have e2 : vcE T bs.length x y n = 0 := if_pos hc
  have e3 : vcB T bs x y n = vwB T bs x (ByteArray.mk (vrV T bs y n).toArray).data.toList := by
    have hl : ((vrV T bs y n).length : Int) = n := hsz
    show vcB T bs x y n = vwB T bs x (vrV T bs y n)
    unfold vcB vwB
    rw [hl, if_pos hc, if_pos h1]
    unfold vrV
    rw [if_pos h2]
  have e4 : vcT T bs.length ss x y n = vwT T bs.length (vrT T bs.length ss y n) x (ByteArray.mk (vrV T bs y n).toArray).size := by
    rw [hsz]
    unfold vcT vwT vrT
    rw [if_pos hc, if_pos h1, if_pos h2]
  have hln := (vrT_len ok bs.length ss y n).1
  have HW : Hid (∀ w0, Things W w0 (ts.set i (Am 51 r bs (vrT T bs.length ss y n))) → Calls Try.prog 26 #[.pointer (some ⟨r, 0, none⟩), .pointer (some ⟨q, 0, none⟩), .int .i64 x, .string ⟨(vrV T bs y n).toArray⟩] w0 fun e w' => e = .returned (.int .i64 0) ∧ Things W w' (ts.set i (Am 51 r (vcB T bs x y n) (vcT T bs.length ss x y n)))) := fun w0 h0 => by
    have := d_write (bs := bs) (ss := vrT T bs.length ss y n) h0 i j (List.getElem?_set_self (ltAt hi)) (set_other (Ne.symm hij) hj) ok hbs (by omega) (x := x) ⟨(vrV T bs y n).toArray⟩ (by omega)
    rw [hsz, e1, List.set_set] at this
    rw [e3, e4, hsz]
    exact this
  rw [e2]
  rw [e5] at HR
  clear h hi hj ok h1 h2 hc e1 e2 e3 e4 e5 hsz a1 a2 a3 hln
  generalize vrV T bs y n = b1 at *
  go_enter Try.func28, Try.ntmps28
  go_wp2_with fail
  refine HP.out.mono ?_
  rintro e w1 ⟨ad, cap, rfl, h1⟩
  have T1 := hid h1.less
  clear h1 HP
  go_wp2_with fail
  refine (HR.out _ T1.out).mono ?_
  rintro e w2 ⟨rfl, h2⟩
  have T2 := hid h2
  clear h2 HR T1
  go_wp2_with fail
  refine (HW.out _ T2.out).mono ?_
  rintro e w3 ⟨rfl, h3⟩
  have T3 := hid h3
  clear h3 HW T2
  go_wp2
  go_ret
  exact ⟨by simp, T3.out⟩
end
end Go.Proofs.Ytcajdbklchjkkaa

namespace Go.Proofs.Ytcajdbklchjkkaa
open Go.RowKit
open An

theorem min_is (P : Program) (x y m : Int) (h : m = min x y) : ∀ ts t w, (Builtin.min_ ts t #[.int .i64 x, .int .i64 y]).run P w = .ok (.int .i64 m) w := by
  intro ts t w
  rw [run_min_int2, show (if y < x then y else x) = m by rw [h]; split <;> omega]
/-- A script that isn't long. -/
def Short (l : List (Int × Int × Int × Int × ByteArray)) : Prop := l.length ≤ 100 ∧ ∀ i (hi : i < l.length), l[i].2.2.2.2.size ≤ 16384
/-- What 'long' answers. -/
def LongR (l : List (Int × Int × Int × Int × ByteArray)) (e : Ending) : Prop := ∃ b : Bool, e = .returned (.bool b) ∧ (b = false → Short l)
set_option maxRecDepth 20000 in
set_option maxHeartbeats 2000000 in
theorem long_any {w : World} {ad : Option Addr} {cap : Nat} {l : List (Int × Int × Int × Int × ByteArray)} (h : OpsAtV w ad l) (hmax : l.length ≤ maxLen) : Calls Try.prog 12 #[.slice ad l.length cap] w fun e w' => LongR l e ∧ Fr (fun _ => False) w w' := by
  have HO := hid h
  clear h
  unfold maxLen at hmax
  go_enter Try.func12, Try.ntmps12
  go_wp2
  go_loopw [3, 8] (fun n i wr => ∃ (j N : Nat), j ≤ l.length ∧ i = .int .i64 j ∧ n = .int .i64 N ∧ N ≤ 16384 ∧ Hid (∀ k (hk : k < l.length), k < j → l[k].2.2.2.2.size ≤ N) ∧ Hid (Fr (fun _ => False) w wr)) (fun _ i _ => l.length - (intOf i).toNat)
  case atStart => exact ⟨0, 0, by omega, rfl, rfl, by omega, fun k _ hk => by omega, Fr.refl _ _⟩
  case round =>
    obtain ⟨j, N, hj, rfl, rfl, hN, HK, HF⟩ := hrel
    by_cases hlt : j < l.length
    · obtain ⟨bb, off, rfl, hbb, hc1, hc2, hc3, hc4, hc5, hB⟩ := HO.out.fr HF.out j hlt
      have HJ : Hid (l[j].2.2.2.2.size = l[j].2.2.2.2.size) := rfl
      generalize hk : l[j] = o at hc1 hc2 hc3 hc4 hc5 hB
      obtain ⟨kind, x, y, z, s⟩ := o
      simp only at hc1 hc2 hc3 hc4 hc5 hB
      have HS : Hid (l[j].2.2.2.2.size = s.size) := by show _ = _; rw [hk]
      have HF2 := hid (HF.out.alloc (.cells #[.int .i64 kind, .int .i64 x, .int .i64 y, .int .i64 z, .string s] 43))
      clear hk hB HJ HF
      obtain ⟨m, hm⟩ : ∃ m : Nat, m = min s.size 1048576 := ⟨_, rfl⟩
      have d1 := min_is Try.prog (s.size : Int) 1048576 m (by omega)
      have HM := hid hm
      have hm2 : m ≤ 1048576 := by omega
      have r1 : IntKind.i64.wrap (2 + (m : Int)) = 2 + m := by rw [IntKind.wrap_i64]; omega
      have r2 : IntKind.i64.wrap ((N : Int) + (2 + m)) = N + (2 + m) := by rw [IntKind.wrap_i64]; omega
      clear hm
      by_cases hb : (16384 : Int) < N + (2 + m)
      · clear HK HO
        go_wp2
        go_ret
        exact ⟨⟨true, by simp, fun e => by cases e⟩, HF2.out⟩
      · have hb2 : (N : Int) + (2 + m) ≤ 16384 := by omega
        clear HO
        go_wp2
        go_roundw
        case rel =>
          refine ⟨j + 1, N + (2 + m), by omega, by go_num, by go_num, by omega, fun k hk hkj => ?_, HF2⟩
          by_cases e : k = j
          · subst e
            have := HS.out
            have := HM.out
            omega
          · have := HK.out k hk (by omega)
            omega
        case measure => simp [intOf]; omega
    · obtain rfl : l.length = j := by omega
      by_cases h1 : (100 : Int) < l.length
      · go_wp2
        go_ret
        exact ⟨⟨true, by simp, fun e => by cases e⟩, HF.out⟩
      · have h2 : (l.length : Int) ≤ 100 := by omega
        go_wp2
        go_ret
        exact ⟨⟨false, by simp, fun _ => ⟨by omega, fun i hi => Nat.le_trans (HK.out i hi hi) hN⟩⟩, HF.out⟩
/-- Touches where a slice says. -/
theorem ga_touched {W w : World} {ts : List (World → (Nat → Prop) → Prop)} {a : Nat} {bs : List UInt8} {ss : List Sp} (h : Things W w ts) (i : Nat) (hi : ts[i]? = some (Am 77 a bs ss)) (hk : ss.length ≤ 1000002) : Calls Try.prog 14 #[.pointer (some ⟨a, 0, none⟩)] w fun e w' => ∃ ad cap, e = .returned (.slice ad ss.length cap) ∧ Things W w' (ts ++ [Sv ad ss]) := by
  obtain ⟨U, h1, _⟩ := h.get i hi
  refine (am_touched h1 hk).mono fun e w' ⟨ad, cap, he, hr, f⟩ => ⟨ad, cap, he, ?_⟩
  refine h.moreSpans (fun j hj => ?_) (fun b off e h0 => ?_) f
  · rcases hr.2 with ⟨e1, e2⟩ | ⟨g, cap', cur, e1, hb, hc, _⟩
    · omega
    · simp only [Value.slice.injEq] at e1
      obtain ⟨rfl, _, _⟩ := e1
      obtain ⟨a0, a1, a2⟩ := spcs_at ss j hj
      have hcell : ∀ j u, (spcs ss)[j]? = some u → w'.cell? ⟨g, j, none⟩ = some u := fun j u hu => by
        have := hr.cells (g := g) rfl j u hu
        rwa [add_plain, Nat.zero_add] at this
      refine ⟨g, 0, rfl, (Array.getElem?_eq_some_iff.1 hc).1, ?_, ?_, ?_⟩
      · rw [Nat.zero_add]; exact hcell _ _ a0
      · rw [Nat.zero_add]; exact hcell _ _ a1
      · rw [Nat.zero_add]; exact hcell _ _ a2
  · subst e
    exact (hr.lt b rfl).1
end Go.Proofs.Ytcajdbklchjkkaa
