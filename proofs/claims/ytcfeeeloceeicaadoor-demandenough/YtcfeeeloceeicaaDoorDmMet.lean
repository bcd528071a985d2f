/-
  The law DemandMet, walked.
-/
import Derived.Test.YtcfeeeloceeicaaDoorDmAwake
import Derived.Test.YtcfeeeloceeicaaDoorDmPut
import Derived.Deep.RegionHeld
namespace Go.Proofs.YtcfeeeloceeicaaDoor
open Go.RowKit

theorem modu (x : Int) (m : Nat) (M : Int) (hM : M = (m : Int)) (h0 : 0 < m) (h1 : m ≤ 65536) : ∃ n : Nat, wrap64 ((IntKind.u64.wrap x).tmod M) = (n : Int) ∧ n < m := by
  subst hM
  have hu : 0 ≤ IntKind.u64.wrap x := by rw [IntKind.wrap_u64]; omega
  have he : (IntKind.u64.wrap x).tmod (m : Int) = (IntKind.u64.wrap x) % (m : Int) := Int.tmod_eq_emod_of_nonneg hu
  have h2 := Int.emod_nonneg (IntKind.u64.wrap x) (b := (m : Int)) (by omega)
  have h3 := Int.emod_lt_of_pos (IntKind.u64.wrap x) (b := (m : Int)) (by omega)
  refine ⟨((IntKind.u64.wrap x) % (m : Int)).toNat, ?_, by omega⟩
  rw [he]
  generalize (IntKind.u64.wrap x) % (m : Int) = z at *
  unfold wrap64
  omega

/-- All blocks of some pages. -/
def sumL : List Int → Int
  | [] => 0
  | x :: l => x + sumL l
theorem sumL_append : ∀ l m : List Int, sumL (l ++ m) = sumL l + sumL m
  | [], m => by simp [sumL]
  | x :: l, m => by simp only [List.cons_append, sumL, sumL_append l m]; omega
theorem sumL_set : ∀ (l : List Int) (i : Nat) (h : i < l.length) (u : Int), sumL (l.set i u) = sumL l - l[i] + u
  | x :: l, 0, _, u => by simp [sumL]; omega
  | x :: l, i + 1, h, u => by
    have := sumL_set l i (by simpa using h) u
    simp only [List.set_cons_succ, sumL, List.getElem_cons_succ, this]; omega
theorem sumL_le {per : Int} : ∀ (l : List Int), (∀ x ∈ l, x ≤ per) → sumL l ≤ l.length * per
  | [], _ => by simp [sumL]
  | x :: l, h => by
    have h1 := sumL_le l fun y hy => h y (by simp [hy])
    have h2 := h x (by simp)
    simp only [sumL, List.length_cons, Int.natCast_add, Int.add_mul, Int.natCast_one, Int.one_mul]; omega
theorem sumL_ge {per : Int} : ∀ (l : List Int), (∀ x ∈ l, per ≤ x) → l.length * per ≤ sumL l
  | [], _ => by simp [sumL]
  | x :: l, h => by
    have h1 := sumL_ge l fun y hy => h y (by simp [hy])
    have h2 := h x (by simp)
    simp only [sumL, List.length_cons, Int.natCast_add, Int.add_mul, Int.natCast_one, Int.one_mul]; omega
theorem mem_set {l : List Int} {i : Nat} {u x : Int} (h : x ∈ l.set i u) : x ∈ l ∨ x = u := by
  rcases List.mem_or_eq_of_mem_set h with h | h
  · exact .inl h
  · exact .inr h
/-- As many blocks of one kind, none given back. -/
structure Met (per : Int) (xs : List Int) (j : Nat) (n : Int) : Prop where
  lo : ∀ x ∈ xs, 1 ≤ x ∧ x ≤ per
  sum : sumL xs = j
  num : n = xs.length
  few : (xs.length : Int) * per < j + per
theorem Met.start {per : Int} (h : 1 ≤ per) : Met per [] 0 0 := ⟨fun _ h => (by cases h), rfl, rfl, by simp; omega⟩
theorem Met.put {per : Int} {xs xs' : List Int} {j i : Nat} {n n' : Int} (hp : 1 ≤ per) (h : Met per xs j n) (k : Put per xs n i xs' n') : Met per xs' (j + 1) n' := by
  rcases k with ⟨hi, h0, h1, rfl, rfl⟩ | ⟨hno, rfl, k⟩
  · refine ⟨fun x hx => ?_, by rw [sumL_set _ _ hi, h.sum]; omega, by rw [List.length_set]; exact h.num, by rw [List.length_set]; have := h.few; omega⟩
    rcases mem_set hx with hx | rfl
    · exact h.lo x hx
    · omega
  · have hfull : ∀ x ∈ xs, per ≤ x := fun x hx => by
      have h1 := h.lo x hx
      have h2 := hno x hx
      omega
    have hs := sumL_ge xs hfull
    rw [h.sum] at hs
    rcases k with ⟨hi, hz, rfl⟩ | ⟨_, rfl, rfl⟩
    · have := (h.lo xs[i] (List.getElem_mem hi)).1
      omega
    · refine ⟨fun x hx => ?_, by rw [sumL_append, h.sum]; simp [sumL], by rw [h.num]; simp, ?_⟩
      · rcases List.mem_append.1 hx with hx | hx
        · exact h.lo x hx
        · simp at hx; subst hx; omega
      · simp only [List.length_append, List.length_cons, List.length_nil, Int.natCast_add, Int.add_mul]
        simp
        omega
theorem Met.end {c q : Int} {xs : List Int} {j : Nat} {n : Int} (h0 : 0 ≤ c) (h1 : c ≤ 7) (hq : May q) (h : Met (perI c) xs j n) (hj : (j : Int) = q / unitI c) : n = byI c q := by
  obtain ⟨u1, _, p1, _, _⟩ := small_unit c h0 h1
  have a := sumL_le xs fun x hx => (h.lo x hx).2
  rw [h.sum, hj] at a
  have b := byI_le c q xs.length h0 h1 hq a
  have f := h.few
  rw [hj] at f
  have d := byI_more' c q ((xs.length : Int) - 1) h0 h1 hq (by rw [Int.sub_mul, Int.one_mul]; omega)
  rw [h.num]
  omega
theorem Met.len {per : Int} {xs : List Int} {j : Nat} {n : Int} (h : Met per xs j n) : xs.length ≤ j := by
  have := sumL_ge (per := 1) xs fun x hx => (h.lo x hx).1
  rw [h.sum] at this
  omega

/-- Blocks turn that are not old. -/
theorem K.new {w0 w w' : World} {S : Nat → Prop} (h : K w0 w) (h0 : 0 < w0.heap.size) (f : Fr S w w') (hs : ∀ i, S i → w0.heap.size ≤ i) : K w0 w' :=
  ⟨h.fr.trans' f fun i hi e => by have := hs i e; omega, h.tab.carry f fun e => by have := hs 0 e; omega⟩
theorem f_unit (c : Int) {w : World} (t : Tab w) : Calls Tryd.prog 25 #[.int .i64 c] w fun e w' => e = .returned (.int .i64 (unitI c)) ∧ Fr (fun _ => False) w w' := (r_unit c (K.start t)).mono fun _ _ h => ⟨h.1, h.2.fr⟩
theorem f_per (c : Int) {w : World} (t : Tab w) : Calls Tryd.prog 23 #[.int .i64 c] w fun e w' => e = .returned (.int .i64 (perI c)) ∧ Fr (fun _ => False) w w' := (r_per c (K.start t)).mono fun _ _ h => ⟨h.1, h.2.fr⟩
theorem f_by (c q : Int) {w : World} (t : Tab w) : Calls Tryd.prog 11 #[.int .i64 c, .int .i64 q] w fun e w' => e = .returned (.int .i64 (byI c q)) ∧ Fr (fun _ => False) w w' := (d_by c q (K.start t)).mono fun _ _ h => ⟨h.1, h.2.fr⟩

set_option maxHeartbeats 2000000 in
theorem met_walk (q c0 : Int) (w0 : World) (hT : Tab w0) : Calls Tryd.prog 7 #[.int .i64 q, .int .i64 c0] w0 fun e w' => e = .returned (.bool true) ∧ Fr (fun _ => False) w0 w' := by
  have HK0 := hid (K.start hT)
  have h00 := hT.pos
  have HA : Hid _ := fun w (k : K w0 w) => awake_any k
  have HM : Hid _ := fun w (k : K w0 w) => d_may q k
  clear hT
  obtain ⟨c, hc, hc8⟩ := modu c0 8 8 rfl (by decide) (by decide)
  by_cases hq : May q
  · rw [decide_eq_true hq] at HM
    have HU : Hid _ := fun w (t : Tab w) => f_unit c t
    have HP : Hid _ := fun w (t : Tab w) => f_per c t
    have HB : Hid _ := fun w (t : Tab w) => f_by c q t
    obtain ⟨u1, u2, p1, p2, _⟩ := small_unit c (by omega) (by omega)
    have hqq := hq
    unfold May at hqq
    have hd : Int.tdiv q (unitI c) = q / unitI c := Int.tdiv_eq_ediv_of_nonneg (by omega)
    have hd0 : 0 ≤ q / unitI c := Int.ediv_nonneg (by omega) (by omega)
    have hd1 : q / unitI c ≤ 4096 := by
      have : q / unitI c ≤ q / 16 := by
        refine (Int.le_ediv_iff_mul_le (by decide)).2 ?_
        have e := Int.ediv_mul_le q (show unitI c ≠ 0 by omega)
        have := Int.mul_le_mul_of_nonneg_left u1 hd0
        omega
      omega
    obtain ⟨N, hN⟩ : ∃ N : Nat, q / unitI c = (N : Int) := ⟨(q / unitI c).toNat, by omega⟩
    have HE : Hid (∀ xs n, Met (perI c) xs N n → n = byI c q) := fun xs n h => h.end (by omega) (by omega) hq hN.symm
    rw [hN] at hd hd1
    have hw : IntKind.i64.wrap (N : Int) = N := by rw [IntKind.wrap_i64]; omega
    have HMS := hid (Met.start (per := perI c) (by omega))
    have HMP := hid fun xs xs' j i n n' => Met.put (per := perI c) (xs := xs) (xs' := xs') (j := j) (i := i) (n := n) (n' := n') (by omega)
    have HML := hid fun xs j n => Met.len (per := perI c) (xs := xs) (j := j) (n := n)
    clear hN hd0 hq
    generalize unitI c = u at *
    generalize perI c = p at *
    generalize byI c q = b at *
    go_enter Tryd.func7, Tryd.ntmps7
    go_wp2_with fail
    refine (HA.out _ HK0.out).mono ?_
    rintro e w1 ⟨rfl, hk⟩
    have HK1 := hid hk
    clear hk HK0
    go_wp2_with fail
    refine (HM.out _ HK1.out).mono ?_
    rintro e w2 ⟨rfl, hk⟩
    have HK2 := hid hk
    clear hk HK1
    go_wp2_with fail
    have hG : Pg ((w2.alloc (.cells #[.slice none 0 0] 37)).alloc (.cells #[.int .i64 0] 3)) (w2.heap.size + 2) w2.heap.size (w2.heap.size + 1) 37 [.slice none 0 0] 0 (.slice none 0 0) [] 0 :=
      ⟨heap_one w2 _ _, rfl, World.ownsRow_nil _ _ _ _, heap_two w2 _ _, by simp [Value.ownBlock], by simp [Value.ownBlock], by omega, by simp⟩
    have hK := HK2.out.on (((Fr.refl (fun _ => False) w2).alloc (.cells #[.slice none 0 0] 37)).alloc (.cells #[.int .i64 0] 3))
    have hs2 := HK2.out.fr.size
    have HG := hid hG
    have HK3 := hid hK
    clear hG hK HK2
    generalize (w2.alloc (.cells #[.slice none 0 0] 37)).alloc (.cells #[.int .i64 0] 3) = w3 at *
    generalize w2.heap.size = B at *
    refine (HU.out _ HK3.out.tab).mono ?_
    rintro e w4 ⟨rfl, hf⟩
    replace HG := hid (HG.out.on hf)
    have HK4 := hid (HK3.out.on hf)
    clear hf HK3
    go_wp2
    clear hd hw
    go_loopw [23] (fun i wr => ∃ (j : Nat) (xs : List Int) (v : Value) (n : Int), j ≤ N ∧ i = .int .i64 j ∧ Hid (Met p xs j n) ∧ Hid (Pg wr (B + 2) B (B + 1) 37 [v] 0 v xs n) ∧ Hid (K w0 wr)) (fun i _ => N - (intOf i).toNat)
    case atStart => exact ⟨0, [], .slice none 0 0, 0, by omega, rfl, HMS, HG, HK4⟩
    case round =>
      obtain ⟨j, xs, v, n, hj, rfl, HX, HG, HK⟩ := hrel
      clear HK4
      have hxl := HML.out xs j n HX.out
      have hn := HX.out.num
      by_cases hlt : j < N
      · go_wp2_with fail
        refine (HP.out _ HK.out.tab).mono ?_
        rintro e w5 ⟨rfl, hf⟩
        have HG5 := hid (HG.out.on hf)
        have HK5 := hid (HK.out.on hf)
        clear hf HG HK
        have HQ := hid (put_any HG5.out p 0 (by omega) (by omega) (by omega) (by omega) (by omega) (by omega))
        have hrow := HG5.out.row.lt
        go_wp2_with fail
        refine HQ.out.mono ?_
        rintro e w6 ⟨i, v', xs', n', rfl, hP, hg, hf, _⟩
        have HX6 := hid (HMP.out xs xs' j i n n' HX.out hP)
        have HG6 := hid hg
        have HK6 := hid (HK5.out.new h00 hf (fun i e => by
          rcases e with e | e | e
          · omega
          · omega
          · have := (hrow i e).1; omega))
        clear hg hf hP HQ HG5 HK5 hrow
        go_wp2
        go_roundw
        case rel => exact ⟨j + 1, xs', v', n', by omega, by go_num, HX6, HG6, HK6⟩
        case measure => simp [intOf]; omega
      · obtain rfl : j = N := by omega
        have hnb := HE.out xs n HX.out
        have cD := HG.out.cD
        rw [hnb] at cD
        have hDl := HG.out.ltD
        clear hn hnb
        go_wp2_with fail
        go_region_held (fun w' => w'.cell? ⟨B + 1, 0, none⟩ = some (.int .i64 b)) (go_keep) (first | (go_at_call 11; refine (HB.out _ (HK.out.on (Fr.refl _ _).drew).tab).mono ?_; rintro e w5 ⟨rfl, hf⟩; have HK5 := hid (HK.out.on ((Fr.refl (fun _ => False) _).drew.trans hf)); have cD5 := (World.cell?_of_block (a := ⟨B + 1, 0, none⟩) (hf.block (B + 1) hDl id)).trans cD; clear hf))
        all_goals
          go_wp2
          go_ret
          exact ⟨by simp, HK5.out.fr⟩
  · rw [decide_eq_false hq] at HM
    clear hq
    go_enter Tryd.func7, Tryd.ntmps7
    go_wp2_with fail
    refine (HA.out _ HK0.out).mono ?_
    rintro e w1 ⟨rfl, hk⟩
    have HK1 := hid hk
    clear hk HK0
    go_wp2_with fail
    refine (HM.out _ HK1.out).mono ?_
    rintro e w2 ⟨rfl, hk⟩
    have HK2 := hid hk
    clear hk HK1
    go_wp2_with fail
    refine (HA.out _ HK2.out).mono ?_
    rintro e w3 ⟨rfl, hk⟩
    have HK3 := hid hk
    clear hk HK2
    go_wp2
    go_ret
    exact ⟨rfl, HK3.out.fr⟩
end Go.Proofs.YtcfeeeloceeicaaDoor
