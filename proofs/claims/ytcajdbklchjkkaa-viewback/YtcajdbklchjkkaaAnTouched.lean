/-
  Touched: the spans, in memory of the caller's own.
-/
import Derived.Test.YtcajdbklchjkkaaAnArena
namespace Go.Proofs.Ytcajdbklchjkkaa.An
open Go.RowKit

set_option maxRecDepth 20000 in
set_option maxHeartbeats 400000 in
theorem clone_any {w : World} {B : Nat} {v : Value} {k : Nat} {ts : List Value} (h : w.ownsRow B 65 3 v k ts) (hnz : k = 0 → v = .slice none 0 0) (hone : ∀ u ∈ ts, u.oneCell' = true) (hk : k ≤ 1000002) :
    Calls Try.prog 30 #[v] w fun e w' => ∃ r, e = .returned r ∧ w'.ownsRow w.heap.size 65 3 r k ts ∧ Fr (fun _ => False) w w' := by
  rcases h.2 with ⟨rfl, rfl⟩ | ⟨g, cap, cur, rfl, hb, hgg, rest⟩
  · have hts : ts = [] := List.eq_nil_of_length_eq_zero (by simpa using h.1)
    subst hts
    clear h hnz hone
    have heq := Lib.run_eql_slice_nil (P := Try.prog) w 45 65 none 0 0 0 0 Try.underlying45
    go_enter Try.func30, Try.ntmps30
    go_wp2
    go_ret
    exact ⟨_, rfl, World.ownsRow_nil _ _ _ _, Fr.refl _ _⟩
  · have hk0 : 0 < k := by
      rcases Nat.eq_zero_or_pos k with h0 | h0
      · cases hnz h0
      · exact h0
    obtain ⟨i0, hi, hz0, hz1, hz2⟩ := info_parts Try.info58
    have heq := Lib.run_eql_slice_nil (P := Try.prog) w 45 65 (some ⟨g, 0, none⟩) k cap 0 0 Try.underlying45
    have hg2 : g < w.heap.size := (Array.getElem?_eq_some_iff.1 hgg).1
    have hsrc : ∀ j u, ts[j]? = some u → w.cell? ((⟨g, 0, none⟩ : Addr).add j) = some u := h.cells rfl
    have hlen := h.1
    clear hgg rest hnz
    go_enter Try.func30, Try.ntmps30
    go_wp2_with (at_builtin; refine wpList_append_sep rfl (.tmp 5) (.tmp 6) 45 rfl w.heap.size 65 i0 (.agg #[.int .i64 0, .int .i64 0, .bool false]) 3 24 Try.underlying45 hi hz0 hz1 hz2 rfl (by decide) _ 0 [] rfl ?c0 ⟨g, 0, none⟩ k cap hk0 ts rfl hlen ?c1 hone ?c3 ?c4 ?c5 ?_)
    case c0 => exact ⟨rfl, .inr ⟨w.heap.size, 0, #[], rfl, Nat.le_refl _, heap_alloc_new w _, Nat.le_refl _, by simp [maxLen], rfl, rfl⟩⟩
    case c1 =>
      intro j u hj
      have hadd : (⟨g, 0, none⟩ : Addr).add j = ⟨g, j, none⟩ := by unfold Addr.add; split <;> simp_all
      have := hsrc j u hj
      rw [hadd] at this ⊢
      rw [World.cell?_alloc_past _ _ _ hg2]
      exact this
    case c3 => unfold maxLen; omega
    case c4 => omega
    case c5 => simp
    · intro g' cap' w1 hown hgrow _
      have hfr : Fr (fun _ => False) w w1 := ((Fr.refl _ w).alloc _).grown hgrow (fun y hy => .inr (by simp [Value.ownBlock] at hy; omega))
      have HO : Hid (w1.ownsRow w.heap.size 65 3 (.slice (some ⟨g', 0, none⟩) k cap') k ts) := hown
      have HF : Hid (Fr (fun _ => False) w w1) := hfr
      clear hown hgrow hfr heq hsrc hone h hi hz0 hz1 hz2
      go_wp2
      go_ret
      exact ⟨_, rfl, HO.out, HF.out⟩

theorem owned_shape {w : World} {B : Nat} {e : TypeId} {size : Nat} {v : Value} {n : Nat} {xs : List Value} (h : w.ownsRow B e size v n xs) : ∃ ad cap, v = .slice ad n cap := by
  rcases h.2 with ⟨rfl, rfl⟩ | ⟨g, cap, _, rfl, _⟩
  · exact ⟨_, _, rfl⟩
  · exact ⟨_, _, rfl⟩

set_option maxRecDepth 20000 in
set_option maxHeartbeats 400000 in
theorem touched_any {w : World} {B a b : Nat} {bs : List UInt8} {v : Value} {ss : List Sp} (h : Ar w 77 B a b bs v ss) (hk : ss.length ≤ 1000002) :
    Calls Try.prog 14 #[.pointer (some ⟨a, 0, none⟩)] w fun e w' => ∃ ad cap, e = .returned (.slice ad ss.length cap) ∧ w'.ownsRow w.heap.size 65 3 (.slice ad ss.length cap) ss.length (spcs ss) ∧ Fr (fun _ => False) w w' := by
  have c1 := h.c1
  have HC : Hid (Calls Try.prog 30 #[v] w fun e w' => ∃ r, e = .returned r ∧ w'.ownsRow w.heap.size 65 3 r ss.length (spcs ss) ∧ Fr (fun _ => False) w w') :=
    clone_any h.tr (fun e => h.nz (List.eq_nil_of_length_eq_zero e)) (spcs_one ss) hk
  clear h
  go_enter Try.func14, Try.ntmps14
  go_wp2_with fail
  refine HC.out.mono ?_
  rintro e w1 ⟨r, rfl, hown, hfr⟩
  have HF : Hid (Fr (fun _ => False) w w1) := hfr
  have HO : Hid (w1.ownsRow w.heap.size 65 3 r ss.length (spcs ss)) := hown
  clear hown hfr HC c1
  go_wp2
  go_ret
  obtain ⟨ad, cap, rfl⟩ := owned_shape HO.out
  exact ⟨ad, cap, rfl, HO.out, HF.out⟩
end Go.Proofs.Ytcajdbklchjkkaa.An
