/-
  Touched: the spans, in memory of the caller's own.
  Same: two lists of spans that are alike.
-/
import Derived.Test.YtcajdbklchjkkaaAnArena
namespace Go.Proofs.Ytcajdbklchjkkaa.An
open Go.RowKit

set_option maxRecDepth 20000 in
set_option maxHeartbeats 400000 in
theorem clone_any {w : World} {B : Nat} {v : Value} {k : Nat} {ts : List Value} (h : w.ownsRow B 65 3 v k ts) (hnz : k = 0 → v = .slice none 0 0) (hone : ∀ u ∈ ts, u.oneCell' = true) (hk : k ≤ 1000002) :
    Calls Try.prog 30 #[v] w fun e w' => ∃ r, e = .returned r ∧ w'.ownsRow w.heap.size 65 3 r k ts ∧ Fr (fun _ => False) w w' := by
  rcases h.2 with ⟨rfl, rfl⟩ | ⟨g, cap, cur, rfl, hb, hgg, rest⟩
  · have hts : ts = [] := List.eq_nil_of_length_eq_zero (by simpa using h.1)
    subst hts
    clear h hnz hone
    have heq := Lib.run_eql_slice_nil (P := Try.prog) w 45 65 none 0 0 0 0 Try.underlying45
    go_enter Try.func30, Try.ntmps30
    go_wp2
    go_ret
    exact ⟨_, rfl, World.ownsRow_nil _ _ _ _, Fr.refl _ _⟩
  · have hk0 : 0 < k := by
      rcases Nat.eq_zero_or_pos k with h0 | h0
      · cases hnz h0
      · exact h0
    obtain ⟨i0, hi, hz0, hz1, hz2⟩ := info_parts Try.info58
    have heq := Lib.run_eql_slice_nil (P := Try.prog) w 45 65 (some ⟨g, 0, none⟩) k cap 0 0 Try.underlying45
    have hg2 : g < w.heap.size := (Array.getElem?_eq_some_iff.1 hgg).1
    have hsrc : ∀ j u, ts[j]? = some u → w.cell? ((⟨g, 0, none⟩ : Addr).add j) = some u := h.cells rfl
    have hlen := h.1
    clear hgg rest hnz
    go_enter Try.func30, Try.ntmps30
    go_wp2_with (at_builtin; refine wpList_append_sep rfl (.tmp 5) (.tmp 6) 45 rfl w.heap.size 65 i0 (.agg #[.int .i64 0, .int .i64 0, .bool false]) 3 24 Try.underlying45 hi hz0 hz1 hz2 rfl (by decide) _ 0 [] rfl ?c0 ⟨g, 0, none⟩ k cap hk0 ts rfl hlen ?c1 hone ?c3 ?c4 ?c5 ?_)
    case c0 => exact ⟨rfl, .inr ⟨w.heap.size, 0, #[], rfl, Nat.le_refl _, heap_alloc_new w _, Nat.le_refl _, by simp [maxLen], rfl, rfl⟩⟩
    case c1 =>
      intro j u hj
      have hadd : (⟨g, 0, none⟩ : Addr).add j = ⟨g, j, none⟩ := by unfold Addr.add; split <;> simp_all
      have := hsrc j u hj
      rw [hadd] at this ⊢
      rw [World.cell?_alloc_past _ _ _ hg2]
      exact this
    case c3 => unfold maxLen; omega
    case c4 => omega
    case c5 => simp
    · intro g' cap' w1 hown hgrow _
      have hfr : Fr (fun _ => False) w w1 := ((Fr.refl _ w).alloc _).grown hgrow (fun y hy => .inr (by simp [Value.ownBlock] at hy; omega))
      have HO : Hid (w1.ownsRow w.heap.size 65 3 (.slice (some ⟨g', 0, none⟩) k cap') k ts) := hown
      have HF : Hid (Fr (fun _ => False) w w1) := hfr
      clear hown hgrow hfr heq hsrc hone h hi hz0 hz1 hz2
      go_wp2
      go_ret
      exact ⟨_, rfl, HO.out, HF.out⟩

theorem owned_shape {w : World} {B : Nat} {e : TypeId} {size : Nat} {v : Value} {n : Nat} {xs : List Value} (h : w.ownsRow B e size v n xs) : ∃ ad cap, v = .slice ad n cap := by
  rcases h.2 with ⟨rfl, rfl⟩ | ⟨g, cap, _, rfl, _⟩
  · exact ⟨_, _, rfl⟩
  · exact ⟨_, _, rfl⟩

set_option maxRecDepth 20000 in
set_option maxHeartbeats 400000 in
theorem touched_any {w : World} {B a b : Nat} {bs : List UInt8} {v : Value} {ss : List Sp} (h : Ar w 77 B a b bs v ss) (hk : ss.length ≤ 1000002) :
    Calls Try.prog 14 #[.pointer (some ⟨a, 0, none⟩)] w fun e w' => ∃ ad cap, e = .returned (.slice ad ss.length cap) ∧ w'.ownsRow w.heap.size 65 3 (.slice ad ss.length cap) ss.length (spcs ss) ∧ Fr (fun _ => False) w w' := by
  have c1 := h.c1
  have HC : Hid (Calls Try.prog 30 #[v] w fun e w' => ∃ r, e = .returned r ∧ w'.ownsRow w.heap.size 65 3 r ss.length (spcs ss) ∧ Fr (fun _ => False) w w') :=
    clone_any h.tr (fun e => h.nz (List.eq_nil_of_length_eq_zero e)) (spcs_one ss) hk
  clear h
  go_enter Try.func14, Try.ntmps14
  go_wp2_with fail
  refine HC.out.mono ?_
  rintro e w1 ⟨r, rfl, hown, hfr⟩
  have HF : Hid (Fr (fun _ => False) w w1) := hfr
  have HO : Hid (w1.ownsRow w.heap.size 65 3 r ss.length (spcs ss)) := hown
  clear hown hfr HC c1
  go_wp2
  go_ret
  obtain ⟨ad, cap, rfl⟩ := owned_shape HO.out
  exact ⟨ad, cap, rfl, HO.out, HF.out⟩
end Go.Proofs.Ytcajdbklchjkkaa.An

namespace Go.Proofs.Ytcajdbklchjkkaa.An
open Go.RowKit

theorem spcs_at : ∀ (ss : List Sp) (k : Nat) (hk : k < ss.length), (spcs ss)[k * 3]? = some (.int .i64 (ss[k]).1) ∧ (spcs ss)[k * 3 + 1]? = some (.int .i64 (ss[k]).2.1) ∧ (spcs ss)[k * 3 + 2]? = some (.bool (ss[k]).2.2)
  | s :: r, 0, _ => by simp [spcs]
  | s :: r, k + 1, hk => by
    have := spcs_at r k (by simpa using hk)
    simpa [spcs, Nat.add_mul] using this

theorem row_spans {w : World} {B g cap : Nat} {ss : List Sp} {T : TypeId} (h : w.ownsRow B T 3 (.slice (some ⟨g, 0, none⟩) ss.length cap) ss.length (spcs ss)) (k : Nat) (hk : k < ss.length) :
    w.cell? ⟨g, k * 3, none⟩ = some (.int .i64 (ss[k]).1) ∧ w.cell? ⟨g, k * 3 + 1, none⟩ = some (.int .i64 (ss[k]).2.1) ∧ w.cell? ⟨g, k * 3 + 2, none⟩ = some (.bool (ss[k]).2.2) := by
  have h1 := spcs_at ss k hk
  exact ⟨(h.cellAt (k * 3) (by omega)).trans h1.1, (h.cellAt (k * 3 + 1) (by omega)).trans h1.2.1, (h.cellAt (k * 3 + 2) (by omega)).trans h1.2.2⟩

theorem owned_fr {S : Nat → Prop} {w w' : World} {B : Nat} {e : TypeId} {size : Nat} {v : Value} {n : Nat} {xs : List Value} (h : w.ownsRow B e size v n xs) (hf : Fr S w w') (h3 : ∀ x, v.ownBlock = some x → ¬ S x) : w'.ownsRow B e size v n xs := by
  refine ⟨h.1, ?_⟩
  rcases h.2 with hn | ⟨g, cap, cur, rfl, hb, hgg, rest⟩
  · exact .inl hn
  · refine .inr ⟨g, cap, cur, rfl, hb, ?_, rest⟩
    rw [hf.block g (Array.getElem?_eq_some_iff.1 hgg).1 (h3 g rfl)]
    exact hgg

set_option maxRecDepth 20000 in
set_option maxHeartbeats 400000 in
theorem same_none {w : World} (a1 a2 : Option Addr) (c1 c2 : Nat) :
    Calls Try.prog 16 #[.slice a1 0 c1, .slice a2 0 c2] w fun e w' => e = .returned (.bool true) ∧ w' = w := by
  go_enter Try.func16, Try.ntmps16
  go_wp2
  refine wp_loop_rounds 1 ?_
  rw [rounds_succ]
  go_wp2
  go_ret
  exact ⟨rfl, rfl⟩

set_option maxRecDepth 20000 in
set_option maxHeartbeats 400000 in
theorem same_pos {w : World} {B1 B2 g1 g2 c1 c2 : Nat} {ss : List Sp} (h1 : w.ownsRow B1 65 3 (.slice (some ⟨g1, 0, none⟩) ss.length c1) ss.length (spcs ss)) (h2 : w.ownsRow B2 65 3 (.slice (some ⟨g2, 0, none⟩) ss.length c2) ss.length (spcs ss)) (hk : ss.length ≤ 1000002) :
    Calls Try.prog 16 #[.slice (some ⟨g1, 0, none⟩) ss.length c1, .slice (some ⟨g2, 0, none⟩) ss.length c2] w fun e w' => e = .returned (.bool true) ∧ Fr (fun _ => False) w w' := by
  have H1 : Hid (w.ownsRow B1 65 3 (.slice (some ⟨g1, 0, none⟩) ss.length c1) ss.length (spcs ss)) := h1
  have H2 : Hid (w.ownsRow B2 65 3 (.slice (some ⟨g2, 0, none⟩) ss.length c2) ss.length (spcs ss)) := h2
  clear h1 h2
  go_enter Try.func16, Try.ntmps16
  go_wp2
  go_loopw [5] (fun i wr => ∃ j : Nat, j ≤ ss.length ∧ i = .int .i64 j ∧ Fr (fun _ => False) w wr) (fun i _ => ss.length - (intOf i).toNat)
  case atStart => exact ⟨0, by omega, rfl, Fr.refl _ _⟩
  case round =>
    obtain ⟨j, hj, rfl, hf⟩ := hrel
    have HF : Hid (Fr (fun _ => False) w wr) := hf
    by_cases hlt : j < ss.length
    · obtain ⟨p1, p2, p3⟩ := row_spans (owned_fr H1.out hf (fun _ _ h => h)) j hlt
      obtain ⟨q1, q2, q3⟩ := row_spans (owned_fr H2.out hf (fun _ _ h => h)) j hlt
      obtain ⟨s1, s2, s3⟩ := ss[j]
      clear hf
      go_wp2
      go_region
      go_wp2
      go_roundw
      case rel => exact ⟨j + 1, by omega, by go_num, HF.out.drew⟩
      case measure => simp [intOf]; omega
    · clear hf
      go_wp2
      go_ret
      exact ⟨rfl, HF.out⟩

theorem same_any {w : World} {B1 B2 : Nat} {v1 v2 : Value} {ss : List Sp} (h1 : w.ownsRow B1 65 3 v1 ss.length (spcs ss)) (h2 : w.ownsRow B2 65 3 v2 ss.length (spcs ss)) (hk : ss.length ≤ 1000002) :
    Calls Try.prog 16 #[v1, v2] w fun e w' => e = .returned (.bool true) ∧ Fr (fun _ => False) w w' := by
  by_cases h0 : ss.length = 0
  · obtain ⟨a1, c1, rfl⟩ := owned_shape h1
    obtain ⟨a2, c2, rfl⟩ := owned_shape h2
    rw [h0]
    exact (same_none a1 a2 c1 c2).mono fun e w' ⟨he, hw⟩ => ⟨he, by subst hw; exact Fr.refl _ _⟩
  · obtain ⟨g1, c1, rfl⟩ : ∃ g c, v1 = .slice (some ⟨g, 0, none⟩) ss.length c := by
      rcases h1.2 with ⟨_, h⟩ | ⟨g, cap, _, h, _⟩
      · exact absurd h h0
      · exact ⟨g, cap, h⟩
    obtain ⟨g2, c2, rfl⟩ : ∃ g c, v2 = .slice (some ⟨g, 0, none⟩) ss.length c := by
      rcases h2.2 with ⟨_, h⟩ | ⟨g, cap, _, h, _⟩
      · exact absurd h h0
      · exact ⟨g, cap, h⟩
    exact same_pos h1 h2 hk
end Go.Proofs.Ytcajdbklchjkkaa.An
