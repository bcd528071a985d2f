/-
  The law PlaceApart, walked.
-/
import Derived.Test.YtkhppfbhhfajgaaDoorPlEq
import Derived.Deep.QuietTactic
import Derived.BigQuiet
import Derived.Deep.RegionHeld3
import Derived.BigRegion
namespace Go.Proofs.YtkhppfbhhfajgaaDoor
open Go.RowKit

/-- Two triples that came in by value, in boxes of the call's own. -/
def two3 (w : World) (a b c d e f : Int) : World := (w.alloc (.cells #[.int .i64 a, .int .i64 b, .int .i64 c] 34)).alloc (.cells #[.int .i64 d, .int .i64 e, .int .i64 f] 34)
theorem two3_cells {w w' : World} {a b c d e f : Int} (h : K (two3 w a b c d e f) w') : (w'.cell? ⟨w.heap.size, 0, none⟩ = some (.int .i64 a) ∧ w'.cell? ⟨w.heap.size, 1, none⟩ = some (.int .i64 b) ∧ w'.cell? ⟨w.heap.size, 2, none⟩ = some (.int .i64 c)) ∧ w'.cell? ⟨w.heap.size + 1, 0, none⟩ = some (.int .i64 d) ∧ w'.cell? ⟨w.heap.size + 1, 1, none⟩ = some (.int .i64 e) ∧ w'.cell? ⟨w.heap.size + 1, 2, none⟩ = some (.int .i64 f) := by
  have e1 : w'.heap[w.heap.size]? = some (.cells #[.int .i64 a, .int .i64 b, .int .i64 c] 34) := by
    rw [h.fr.block w.heap.size (by simp [two3]; omega) id]
    unfold two3
    rw [heap_alloc_old _ _ (by simp), heap_alloc_new]
  have e2 : w'.heap[w.heap.size + 1]? = some (.cells #[.int .i64 d, .int .i64 e, .int .i64 f] 34) := by
    rw [h.fr.block (w.heap.size + 1) (by simp [two3]) id]
    unfold two3
    rw [show w.heap.size + 1 = (w.alloc (.cells #[.int .i64 a, .int .i64 b, .int .i64 c] 34)).heap.size by simp, heap_alloc_new]
  simp [World.cell?, e1, e2]
theorem two3_fr {w w' : World} {a b c d e f : Int} (h : K (two3 w a b c d e f) w') : Fr (fun _ => False) w w' := (((Fr.refl _ w).alloc _).alloc _).trans h.fr
set_option maxRecDepth 20000 in
set_option maxHeartbeats 4000000 in
theorem apart_walk (a b c d f g : Int) (ha : I64 a) (hb : I64 b) (hc : I64 c) (hd : I64 d) (hf : I64 f) (hg : I64 g) (w0 : World) (hT : Tab w0) : Calls Tryd.prog 5 #[.agg #[.int .i64 a, .int .i64 b, .int .i64 c], .agg #[.int .i64 d, .int .i64 f, .int .i64 g]] w0 fun e w' => e = .returned (.bool true) ∧ Fr (fun _ => False) w0 w' := by
  have HK0 : Hid (K (two3 w0 a b c d f g) (two3 w0 a b c d f g)) := K.start (hT.carry (((Fr.refl (fun _ => False) w0).alloc _).alloc _) id)
  clear hT
  have HA : Hid _ := fun w (k : K (two3 w0 a b c d f g) w) => awake_any k
  have H1 : Hid _ := fun w (k : K (two3 w0 a b c d f g) w) => l_of a b c ha hb hc k
  have H2 : Hid _ := fun w (k : K (two3 w0 a b c d f g) w) => l_of d f g hd hf hg k
  have HE : Hid (∀ w', K (two3 w0 a b c d f g) w' → Fr (fun _ => False) w0 w') := fun w' h => two3_fr h
  have HC : Hid (∀ w', K (two3 w0 a b c d f g) w' → (w'.cell? ⟨w0.heap.size, 0, none⟩ = some (.int .i64 a) ∧ w'.cell? ⟨w0.heap.size, 1, none⟩ = some (.int .i64 b) ∧ w'.cell? ⟨w0.heap.size, 2, none⟩ = some (.int .i64 c)) ∧ w'.cell? ⟨w0.heap.size + 1, 0, none⟩ = some (.int .i64 d) ∧ w'.cell? ⟨w0.heap.size + 1, 1, none⟩ = some (.int .i64 f) ∧ w'.cell? ⟨w0.heap.size + 1, 2, none⟩ = some (.int .i64 g)) := fun w' h => two3_cells h
  have H3 : Hid _ := fun w (k : K (two3 w0 a b c d f g) w) => r_unit a k
  have H4 : Hid _ := fun w (k : K (two3 w0 a b c d f g) w) => r_unit d k
  have H5 : Hid _ := fun w (k : K (two3 w0 a b c d f g) w) => r_align a k
  by_cases h : PlT a b c
  case neg =>
    unfold ofA ofE at H1
    rw [if_neg h, if_neg h] at H1
    clear h ha hb hc hd hf hg H3 H4 H5
    generalize ofA d f g = x2 at *
    generalize ofE d f g = e2 at *
    go_enter Tryd.func5, Tryd.ntmps5
    go_wp2_with fail
    refine (H1.out _ HK0.out).mono ?_
    rintro e w1 ⟨rfl, hk⟩
    have HK1 := hid hk
    clear hk HK0
    obtain ⟨⟨a1, b1, c1⟩, d1, f1, g1⟩ := HC.out _ HK1.out
    go_wp2_with fail
    refine (H2.out _ HK1.out).mono ?_
    rintro e w2 ⟨rfl, hk⟩
    have HK2 := hid hk
    clear hk HK1
    obtain ⟨⟨a2, b2, c2⟩, d2, f2, g2⟩ := HC.out _ HK2.out
    go_wp2_with fail
    refine (HA.out _ HK2.out).mono ?_
    rintro e w3 ⟨rfl, hk⟩
    have HK3 := hid hk
    clear hk HK2
    obtain ⟨⟨a3, b3, c3⟩, d3, f3, g3⟩ := HC.out _ HK3.out
    go_wp2_with fail
    refine (HA.out _ HK3.out).mono ?_
    rintro e w4 ⟨rfl, hk⟩
    have HK4 := hid hk
    clear hk HK3
    obtain ⟨⟨a4, b4, c4⟩, d4, f4, g4⟩ := HC.out _ HK4.out
    go_wp2
    go_ret
    exact ⟨by simp, HE.out _ HK4.out⟩
  unfold ofA ofE at H1 H2
  by_cases h' : PlT d f g
  case neg =>
    rw [if_pos h, if_pos h] at H1
    rw [if_neg h', if_neg h'] at H2
    clear h h' ha hb hc hd hf hg H3 H4 H5
    generalize adI a b c = x1 at *
    go_enter Tryd.func5, Tryd.ntmps5
    go_wp2_with fail
    refine (H1.out _ HK0.out).mono ?_
    rintro e w1 ⟨rfl, hk⟩
    have HK1 := hid hk
    clear hk HK0
    obtain ⟨⟨a1, b1, c1⟩, d1, f1, g1⟩ := HC.out _ HK1.out
    go_wp2_with fail
    refine (H2.out _ HK1.out).mono ?_
    rintro e w2 ⟨rfl, hk⟩
    have HK2 := hid hk
    clear hk HK1
    obtain ⟨⟨a2, b2, c2⟩, d2, f2, g2⟩ := HC.out _ HK2.out
    go_wp2_with fail
    refine (HA.out _ HK2.out).mono ?_
    rintro e w3 ⟨rfl, hk⟩
    have HK3 := hid hk
    clear hk HK2
    obtain ⟨⟨a3, b3, c3⟩, d3, f3, g3⟩ := HC.out _ HK3.out
    go_wp2_with fail
    refine (HA.out _ HK3.out).mono ?_
    rintro e w4 ⟨rfl, hk⟩
    have HK4 := hid hk
    clear hk HK3
    obtain ⟨⟨a4, b4, c4⟩, d4, f4, g4⟩ := HC.out _ HK4.out
    go_wp2
    go_ret
    exact ⟨by simp, HE.out _ HK4.out⟩
  rw [if_pos h, if_pos h] at H1
  rw [if_pos h', if_pos h'] at H2
  obtain ⟨a0, a1⟩ := h.kind
  obtain ⟨d0, d1⟩ := h'.kind
  have g2 := h.inside
  have g3 := h'.inside
  have u1 := (pl_facts a0 a1).2.2.2.1
  have u2 := (pl_facts d0 d1).2.2.2.1
  have al := (pl_facts a0 a1).2.2.2.2.1
  have H6 : Hid _ := fun w (k : K (two3 w0 a b c d f g) w) => l_within (adI a b c) (unitI a) (by omega) (by omega) k
  have H7 : Hid _ := fun w (k : K (two3 w0 a b c d f g) w) => l_within (adI d f g) (unitI d) (by omega) (by omega) k
  rw [decide_eq_true (show InW (adI a b c) (unitI a) by omega)] at H6
  rw [decide_eq_true (show InW (adI d f g) (unitI d) by omega)] at H7
  have t1 : Int.tmod (adI a b c) (alignI a) = 0 := by rw [Int.tmod_eq_emod_of_nonneg (by omega)]; exact h.align
  have t2 : alignI a ≠ 0 := by omega
  have t3 : IntKind.i64.wrap (adI a b c + unitI a) = adI a b c + unitI a := by rw [IntKind.wrap_i64]; omega
  have t4 : IntKind.i64.wrap (adI d f g + unitI d) = adI d f g + unitI d := by rw [IntKind.wrap_i64]; omega
  have HEQ : Hid _ := fun w => eq3 ha hb hc hd hf hg w
  have HAP : Hid ((a = d ∧ b = f ∧ c = g) ∨ adI a b c + unitI a ≤ adI d f g ∨ adI d f g + unitI d ≤ adI a b c) := by
    by_cases e : a = d ∧ b = f ∧ c = g
    · exact .inl e
    · exact .inr (h.apart h' e)
  clear h h' ha hb hc hd hf hg g2 g3 u1 u2 al a0 a1 d0 d1
  generalize adI a b c = x at *
  generalize adI d f g = y at *
  generalize unitI a = m at *
  generalize unitI d = n at *
  generalize alignI a = al at *
  go_enter Tryd.func5, Tryd.ntmps5
  go_wp2_with fail
  refine (H1.out _ HK0.out).mono ?_
  rintro e w1 ⟨rfl, hk⟩
  have HK1 := hid hk
  clear hk HK0
  obtain ⟨⟨a1, b1, c1⟩, d1, f1, g1⟩ := HC.out _ HK1.out
  go_wp2_with fail
  refine (H2.out _ HK1.out).mono ?_
  rintro e w2 ⟨rfl, hk⟩
  have HK2 := hid hk
  clear hk HK1
  obtain ⟨⟨a2, b2, c2⟩, d2, f2, g2⟩ := HC.out _ HK2.out
  go_wp2_with fail
  refine (HA.out _ HK2.out).mono ?_
  rintro e w3 ⟨rfl, hk⟩
  have HK3 := hid hk
  clear hk HK2
  obtain ⟨⟨a3, b3, c3⟩, d3, f3, g3⟩ := HC.out _ HK3.out
  go_wp2_with fail
  go_region_held3 (fun w' => w'.cell? ⟨w0.heap.size, 0, none⟩ = some (.int .i64 a) ∧ w'.cell? ⟨w0.heap.size + 1, 0, none⟩ = some (.int .i64 d)) (first | go_keep | exact ⟨by assumption, by assumption⟩) (first | (go_at_call 16; refine (H4.out _ HK4.out).mono ?_; rintro e w5 ⟨rfl, hk⟩; have HK5 := hid hk; obtain ⟨⟨a5, b5, c5⟩, d5, f5, g5⟩ := HC.out _ HK5.out; clear hk) | (go_at_call 16; refine (H3.out _ (HK3.out.on (Fr.refl _ _).drew)).mono ?_; rintro e w4 ⟨rfl, hk⟩; have HK4 := hid hk; obtain ⟨⟨a4, b4, c4⟩, d4, f4, g4⟩ := HC.out _ HK4.out; clear hk))
  go_wp2_with fail
  refine (H5.out _ HK5.out).mono ?_
  rintro e w6 ⟨rfl, hk⟩
  have HK6 := hid hk
  clear hk HK5
  obtain ⟨⟨a6, b6, c6⟩, d6, f6, g6⟩ := HC.out _ HK6.out
  go_wp2_with fail
  refine (H6.out _ HK6.out).mono ?_
  rintro e w7 ⟨rfl, hk⟩
  have HK7 := hid hk
  clear hk HK6
  obtain ⟨⟨a7, b7, c7⟩, d7, f7, g7⟩ := HC.out _ HK7.out
  go_wp2_with fail
  refine (H7.out _ HK7.out).mono ?_
  rintro e w8 ⟨rfl, hk⟩
  have HK8 := hid hk
  clear hk HK7
  obtain ⟨⟨a8, b8, c8⟩, d8, f8, g8⟩ := HC.out _ HK8.out
  rcases HAP.out with ⟨e1, e2, e3⟩ | hle
  · have heq : ∀ w, (Op.equalIn 10000 34 (.agg #[.int .i64 a, .int .i64 b, .int .i64 c]) (.agg #[.int .i64 d, .int .i64 f, .int .i64 g])).run Tryd.prog w = .ok true w := fun w => by rw [HEQ.out w, decide_eq_true ⟨e1, e2, e3⟩]
    clear HEQ HAP e1 e2 e3
    go_wp2
    go_ret
    exact ⟨by simp, HE.out _ HK8.out⟩
  · by_cases hee : a = d ∧ b = f ∧ c = g
    · have heq : ∀ w, (Op.equalIn 10000 34 (.agg #[.int .i64 a, .int .i64 b, .int .i64 c]) (.agg #[.int .i64 d, .int .i64 f, .int .i64 g])).run Tryd.prog w = .ok true w := fun w => by rw [HEQ.out w, decide_eq_true hee]
      clear HEQ HAP hee hle
      go_wp2
      go_ret
      exact ⟨by simp, HE.out _ HK8.out⟩
    · have heq : ∀ w, (Op.equalIn 10000 34 (.agg #[.int .i64 a, .int .i64 b, .int .i64 c]) (.agg #[.int .i64 d, .int .i64 f, .int .i64 g])).run Tryd.prog w = .ok false w := fun w => by rw [HEQ.out w, decide_eq_false hee]
      clear HEQ HAP hee
      rcases hle with hle | hle
      · go_wp2
        go_ret
        exact ⟨by simp, HE.out _ HK8.out⟩
      · by_cases hl2 : x + m ≤ y
        · go_wp2
          go_ret
          exact ⟨by simp, HE.out _ HK8.out⟩
        · go_wp2
          go_ret
          exact ⟨by simp, HE.out _ HK8.out⟩
end Go.Proofs.YtkhppfbhhfajgaaDoor
