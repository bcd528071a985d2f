/-
  How many pages a heap holds at most for what its blocks cost: mathematics.
  What the document's own answers on quotas are.
-/
import Derived.Test.YtihaifnenjngpaaGreatDoorDmBase
import Derived.Test.YtihaifnenjngpaaGreatDoorClRef
namespace Go.Proofs.YtihaifnenjngpaaGreatDoor
open Go.RowKit
open An

/-- Sums over what is held. -/
def smL (f : Hd → Int) : List Hd → Int
  | [] => 0
  | x :: r => f x + smL f r
theorem smL_append (f : Hd → Int) : ∀ l m : List Hd, smL f (l ++ m) = smL f l + smL f m
  | [], m => by simp [smL]
  | x :: r, m => by simp only [List.cons_append, smL, smL_append f r m]; omega
theorem smL_le {f g : Hd → Int} : ∀ {l : List Hd}, (∀ x ∈ l, f x ≤ g x) → smL f l ≤ smL g l
  | [], _ => Int.le_refl _
  | x :: r, h => by
    have h1 := h x (by simp)
    have h2 := smL_le (l := r) fun y hy => h y (List.mem_cons_of_mem _ hy)
    simp only [smL]; omega
theorem smL_add (f g : Hd → Int) : ∀ l : List Hd, smL (fun x => f x + g x) l = smL f l + smL g l
  | [] => rfl
  | x :: r => by simp only [smL, smL_add f g r]; omega
section
variable {L : List Hd} {x : Hd}
theorem smL_set (f : Hd → Int) (g : Pg) : ∀ {L : List Hd}, (L.map fun x => (x.kind, x.slot)).Nodup → x ∈ L → smL f (hSet L x.kind x.slot g) = smL f L - f x + f ⟨x.kind, x.slot, g⟩
  | y :: r, nd, hx => by
    rw [List.map_cons, List.nodup_cons] at nd
    by_cases e : y.kind = x.kind ∧ y.slot = x.slot
    · have hyx : y = x := by
        rcases List.mem_cons.1 hx with e2 | e2
        · exact e2.symm
        · exact (nd.1 (List.mem_map.2 ⟨x, e2, by rw [e.1, e.2]⟩)).elim
      subst hyx
      have hr : hSet r y.kind y.slot g = r := by
        unfold hSet
        conv => rhs; rw [← List.map_id r]
        apply List.map_congr_left
        intro z hz
        rw [if_neg]
        · rfl
        · rintro ⟨a, b⟩
          exact nd.1 (List.mem_map.2 ⟨z, hz, by rw [a, b]⟩)
      unfold hSet at hr ⊢
      rw [List.map_cons, if_pos ⟨rfl, rfl⟩]
      simp only [smL]
      rw [hr]
      omega
    · have hx' : x ∈ r := by
        rcases List.mem_cons.1 hx with rfl | e2
        · exact (e ⟨rfl, rfl⟩).elim
        · exact e2
      have ih := smL_set f g nd.2 hx'
      unfold hSet at ih ⊢
      rw [List.map_cons, if_neg e]
      simp only [smL]
      rw [ih]
      omega
theorem smL_del (f : Hd → Int) : ∀ {L : List Hd}, (L.map fun x => (x.kind, x.slot)).Nodup → x ∈ L → smL f (hDel L x.kind x.slot) = smL f L - f x
  | y :: r, nd, hx => by
    rw [List.map_cons, List.nodup_cons] at nd
    by_cases e : y.kind = x.kind ∧ y.slot = x.slot
    · have hyx : y = x := by
        rcases List.mem_cons.1 hx with e2 | e2
        · exact e2.symm
        · exact (nd.1 (List.mem_map.2 ⟨x, e2, by rw [e.1, e.2]⟩)).elim
      subst hyx
      have hr : hDel r y.kind y.slot = r := by
        unfold hDel
        rw [List.filter_eq_self]
        intro z hz
        rw [decide_eq_true_eq]
        rintro ⟨a, b⟩
        exact nd.1 (List.mem_map.2 ⟨z, hz, by rw [a, b]⟩)
      unfold hDel at hr ⊢
      rw [List.filter_cons_of_neg (by simp), hr]
      simp only [smL]
      omega
    · have hx' : x ∈ r := by
        rcases List.mem_cons.1 hx with rfl | e2
        · exact (e ⟨rfl, rfl⟩).elim
        · exact e2
      have ih := smL_del f nd.2 hx'
      unfold hDel at ih ⊢
      rw [List.filter_cons_of_pos (by rw [decide_eq_true_eq]; exact e)]
      simp only [smL]
      rw [ih]
      omega
end
/-- Pages; what a slot's blocks cost; of a kind. -/
def pgF (x : Hd) : Int := pn x.kind
def coF (x : Hd) : Int := if x.kind ≤ 7 then x.pg.used * pu x.kind else unitI x.kind
def knF (c : Nat) (x : Hd) : Int := if x.kind = c then 1 else 0
def ruF (x : Hd) : Int := if 8 ≤ x.kind then pn x.kind else 0
def knS (x : Hd) : Nat → Int
  | 0 => 0
  | k + 1 => knS x k + knF k x
def knT (L : List Hd) : Nat → Int
  | 0 => 0
  | k + 1 => knT L k + smL (knF k) L
theorem knT_sum (L : List Hd) : ∀ k, knT L k = smL (fun x => knS x k) L
  | 0 => by
    show (0 : Int) = smL (fun _ => 0) L
    induction L with
    | nil => rfl
    | cons x r ih => simp only [smL, ← ih]; omega
  | k + 1 => by simp only [knT, knS]; rw [knT_sum L k, ← smL_add]
theorem knS_is (x : Hd) : ∀ k, knS x k = if x.kind < k then 1 else 0
  | 0 => by simp [knS]
  | k + 1 => by
    unfold knS knF
    rw [knS_is x k]
    by_cases h1 : x.kind < k
    · rw [if_pos h1, if_neg (by omega), if_pos (by omega)]; rfl
    · by_cases h2 : x.kind = k
      · rw [if_neg h1, if_pos h2, if_pos (by omega)]; rfl
      · rw [if_neg h1, if_neg h2, if_neg (by omega)]; rfl
/-- A heap whose blocks cost so much, within a quota. -/
structure Few (q : Int) (H : Hp) (ct : Int) : Prop where
  may : May q
  len : (H.T.length : Int) = smL pgF H.L
  cost : ct = smL coF H.L
  fits : ct ≤ q
  few : ∀ c : Nat, c ≤ 7 → smL (knF c) H.L ≤ byI c q
section
variable {C : Nat → Prop} {k : Nat} {M : Ms} {H : Hp} {q cost : Int}
theorem knT_le (h : Few q H cost) : ∀ k, k ≤ 8 → knT H.L k ≤ sumBy q k
  | 0, _ => Int.le_refl _
  | k + 1, hk => by
    have h1 := knT_le h k (by omega)
    have h2 := h.few k (by omega)
    simp only [knT, sumBy]; omega
theorem Few.pages (h : Few q H cost) (ok : HpOk C M H) : (H.T.length : Int) ≤ takesI q := by
  have h1 := knT_le h 8 (Nat.le_refl _)
  rw [knT_sum] at h1
  have h2 : smL pgF H.L ≤ smL (fun x => knS x 8 + ruF x) H.L := smL_le fun x hx => by
    obtain ⟨c1, c2⟩ := ok.at_ x hx
    rw [knS_is]
    unfold pgF ruF
    by_cases h8 : 8 ≤ x.kind
    · rw [if_neg (by omega), if_pos h8]; omega
    · have := ((pn_facts c1).2.2.2.2.2 (by omega)).1
      rw [if_pos (by omega), if_neg h8, this]; omega
  rw [smL_add] at h2
  have h3 : smL (fun x => ruF x * 512) H.L ≤ smL coF H.L := smL_le fun x hx => by
    obtain ⟨c1, c2⟩ := ok.at_ x hx
    unfold ruF coF
    by_cases h8 : 8 ≤ x.kind
    · rw [if_pos h8, if_neg (by omega)]
      have := pages_unit (x.kind : Int) (by omega) (by omega)
      have e := (pn_facts c1).2.2.2.1
      rw [e] at this
      omega
    · rw [if_neg h8, if_pos (by omega), Int.zero_mul]
      exact Int.mul_nonneg (by omega) (by omega)
  have h4 : smL (fun x => ruF x * 512) H.L = smL ruF H.L * 512 := by
    generalize H.L = L
    induction L with
    | nil => rfl
    | cons x r ih => simp only [smL, ih, Int.add_mul]
  have h5 := h.cost
  have h6 := h.fits
  have h7 := h.len
  unfold takesI runsI
  rw [if_pos h.may]
  omega
theorem Few.malloc (h : Few q H cost) (ok : HpOk C M H) {n : Int} {r : Ms × Hp × Int × Int} (w : MWay C k M H n r) (he : r.2.2.2 = 0) (hq : cost + unitI (ofI n) ≤ q) : Few q r.2.1 (cost + unitI (ofI n)) := by
  have hco := h.cost
  rcases w with ⟨_, rfl⟩ | ⟨_, rfl, _⟩ | ⟨c, hc, h8, s, m', H', g, f, rfl⟩ | ⟨c, hc, h7, hln, s, m', H', z, f, hm, hz, rfl⟩ | ⟨c, hc, h7, x, hx, rfl, hf, _, rfl⟩
  · exact absurd he (by show ¬ (2 : Int) = 0; decide)
  · exact absurd he (by show ¬ (13 : Int) = 0; decide)
  · rw [hc] at hq ⊢
    have hL : H'.L = H.L ++ [⟨c, s, g⟩] := by rw [f.eH]
    refine ⟨h.may, ?_, ?_, hq, fun d hd => ?_⟩
    · show (H'.T.length : Int) = smL pgF H'.L
      rw [f.took.tl, hL, smL_append, ← h.len]
      simp only [smL, pgF]; omega
    · show _ = smL coF H'.L
      rw [hL, smL_append, hco]
      simp only [smL, coF]
      rw [if_neg (show ¬ c ≤ 7 by omega)]; omega
    · show smL (knF d) H'.L ≤ _
      rw [hL, smL_append]
      simp only [smL, knF]
      rw [if_neg (show ¬ c = d by omega)]
      have := h.few d hd
      omega
  · rw [hc] at hq ⊢
    have hL : H'.L = H.L ++ [⟨c, s, ⟨z * 512, c, 1, [], []⟩⟩] := by rw [f.eH]
    obtain ⟨k1, k2, k3, k4, k5⟩ := kind_facts c h7
    have hp1 := ((pn_facts f.fc).2.2.2.2.2 h7).1
    have hus : Pg.used ⟨z * 512, c, 1, [], []⟩ = 1 := rfl
    refine ⟨h.may, ?_, ?_, hq, fun d hd => ?_⟩
    · show (H'.T.length : Int) = smL pgF H'.L
      rw [f.took.tl, hL, smL_append, ← h.len]
      simp only [smL, pgF]; omega
    · show _ = smL coF H'.L
      rw [hL, smL_append, hco]
      simp only [smL, coF]
      rw [if_pos h7, hus, k4]; omega
    · show smL (knF d) H'.L ≤ _
      rw [hL, smL_append]
      simp only [smL, knF]
      by_cases e : c = d
      · subst e
        rw [if_pos rfl]
        have hfull : smL (fun x => knF c x * (perI c * unitI c)) H.L ≤ smL coF H.L := smL_le fun x hx => by
          unfold knF coF
          by_cases e : x.kind = c
          · subst e
            rw [if_pos rfl, if_pos h7, Int.one_mul]
            have hs := ok.sm x hx h7
            have hF : x.pg.Full := Classical.not_not.1 fun hn => by
              have := ((ok.ln x.kind).2 (lo x.kind x.slot)).2 ⟨x, hx, rfl, h7, rfl, hn⟩
              rw [hln] at this
              cases this
            unfold Pg.Full at hF
            rw [hs.kd] at hF
            rw [hF, k4, k5]
            exact Int.le_refl _
          · rw [if_neg e, Int.zero_mul]
            split
            · exact Int.mul_nonneg (by omega) (by omega)
            · have := (unitI_range x.kind (by omega) (by have := (ok.at_ x hx).1; omega)).1
              omega
        have hmul : smL (fun x => knF c x * (perI c * unitI c)) H.L = smL (knF c) H.L * (perI c * unitI c) := by
          generalize H.L = L
          induction L with
          | nil => simp [smL]
          | cons x r ih => simp only [smL, ih, Int.add_mul]
        rw [hmul, ← hco, ← Int.mul_assoc] at hfull
        have := byI_more c q (smL (knF c) H.L) (by omega) (by omega) h.may (by rw [Int.add_mul, Int.one_mul]; omega)
        omega
      · rw [if_neg e]
        have := h.few d hd
        omega
  · rw [hc] at hq ⊢
    have hs := ok.sm x hx h7
    have hg := hs.ok.given hs.cl hf
    obtain ⟨k1, k2, k3, k4, k5⟩ := kind_facts x.kind h7
    refine ⟨h.may, ?_, ?_, hq, fun d hd => ?_⟩
    · show (H.T.length : Int) = smL pgF (hSet H.L x.kind x.slot (paS x.pg))
      rw [smL_set _ _ ok.nd hx, h.len]
      simp only [pgF]; omega
    · show _ = smL coF (hSet H.L x.kind x.slot (paS x.pg))
      rw [smL_set _ _ ok.nd hx, hco]
      simp only [coF]
      rw [if_pos h7, if_pos h7, hg.used, k4, Int.natCast_add, Int.add_mul]
      omega
    · show smL (knF d) (hSet H.L x.kind x.slot (paS x.pg)) ≤ _
      rw [smL_set _ _ ok.nd hx]
      have := h.few d hd
      simp only [knF]
      omega
theorem Few.free (h : Few q H cost) (ok : HpOk C M H) (ms : MsOk M) {c s j : Nat} (hb : HadB H.L c s j) : Few q (hF M H c s j).2.1 (cost - unitI c) := by
  have hco := h.cost
  have hfit := h.fits
  obtain ⟨x, hx, rfl, rfl, hh, hj⟩ := hb
  obtain ⟨c1, c2⟩ := ok.at_ x hx
  have hun := (unitI_range x.kind (by omega) (by omega)).1
  have hat := hAt_mem ok.nd hx
  have hmay : x.kind ≤ 7 → x.pg.May j := fun h7 => by
    have hs := ok.sm x hx h7
    exact ⟨⟨by omega, by rw [hs.kd, ← nu_small h7]; omega⟩, by simpa using hh h7⟩
  have hhad : hHad H.L x.kind x.slot j = some x := by
    unfold hHad
    rw [hat]
    dsimp only
    rw [if_neg]
    rintro ⟨h7, hn⟩
    exact hn (hmay h7)
  have hkn : ∀ d : Nat, 0 ≤ knF d x := fun d => by unfold knF; split <;> omega
  unfold hF
  rw [hhad]
  dsimp only
  by_cases h8 : 8 ≤ x.kind
  · rw [if_pos h8]
    have w := letN_spec (C := C) (pn x.kind) (lo x.kind x.slot) M H.T ok.tp ms fun i hi => ok.cov x hx i hi
    have hl := w.tl
    refine ⟨h.may, ?_, ?_, by omega, fun d hd => ?_⟩
    · dsimp only
      rw [smL_del _ ok.nd hx, ← h.len]
      simp only [pgF]; omega
    · dsimp only
      rw [smL_del _ ok.nd hx, hco]
      simp only [coF]
      rw [if_neg (by omega)]
    · dsimp only
      rw [smL_del _ ok.nd hx]
      have := h.few d hd
      have := hkn d
      omega
  · rw [if_neg h8]
    have h7 : x.kind ≤ 7 := by omega
    have hs := ok.sm x hx h7
    have hm := hmay h7
    obtain ⟨k1, k2, k3, k4, k5⟩ := kind_facts x.kind h7
    have hus := (hs.ok.freed hs.cl (j : Int)).2.2.2 hm
    by_cases hu : (pfS x.pg j).used = 0
    · rw [if_pos hu]
      obtain ⟨b1, b2, _⟩ := ok.free ms hx h7 hm (ss' := pfT x.pg M.ss j)
      have w := letN_spec (C := C) (pn x.kind) (lo x.kind x.slot) ⟨M.has, pfB x.pg M.bs j, pfT x.pg M.ss j⟩ H.T ok.tp b2 fun i hi => ok.cov x hx i hi
      have hl := w.tl
      refine ⟨h.may, ?_, ?_, by omega, fun d hd => ?_⟩
      · dsimp only
        rw [smL_del _ ok.nd hx, ← h.len]
        simp only [pgF]; omega
      · dsimp only
        rw [smL_del _ ok.nd hx, hco]
        simp only [coF]
        rw [if_pos h7, ← hus, hu, k4]; omega
      · dsimp only
        rw [smL_del _ ok.nd hx]
        have := h.few d hd
        have := hkn d
        omega
    · rw [if_neg hu]
      refine ⟨h.may, ?_, ?_, by omega, fun d hd => ?_⟩
      · dsimp only
        rw [smL_set _ _ ok.nd hx, h.len]
        simp only [pgF]; omega
      · dsimp only
        rw [smL_set _ _ ok.nd hx, hco]
        simp only [coF]
        rw [if_pos h7, if_pos h7, ← hus, k4, Int.natCast_add, Int.add_mul]
        omega
      · dsimp only
        rw [smL_set _ _ ok.nd hx]
        have := h.few d hd
        simp only [knF]
        omega
end
end Go.Proofs.YtihaifnenjngpaaGreatDoor

namespace Go.Proofs.YtihaifnenjngpaaGreatDoor
open Go.RowKit

theorem e_may (q : Int) (w : World) : Calls Tryz.prog 43 #[.int .i64 q] w fun e w' => e = .returned (.bool (decide (May q))) ∧ w' = w := by
  by_cases h0 : 1 ≤ q
  · by_cases h1 : q ≤ 65536
    · have hm : Hid (decide (May q) = true) := decide_eq_true (p := May q) ⟨h0, h1⟩
      generalize decide (May q) = b at *
      go_enter Tryz.func43, Tryz.ntmps43
      go_wp2
      go_ret
      exact ⟨by rw [hm.out]; rfl, rfl⟩
    · have hm : Hid (decide (May q) = false) := decide_eq_false (p := May q) fun h => h1 h.2
      generalize decide (May q) = b at *
      go_enter Tryz.func43, Tryz.ntmps43
      go_wp2
      go_ret
      exact ⟨by rw [hm.out]; rfl, rfl⟩
  · have hm : Hid (decide (May q) = false) := decide_eq_false (p := May q) fun h => h0 h.1
    generalize decide (May q) = b at *
    go_enter Tryz.func43, Tryz.ntmps43
    go_wp2
    go_ret
    exact ⟨by rw [hm.out]; rfl, rfl⟩
set_option maxHeartbeats 1000000 in
theorem e_by (c q : Int) {w0 w : World} (k : K w0 w) : Calls Tryz.prog 97 #[.int .i64 c, .int .i64 q] w fun e w' => e = .returned (.int .i64 (byI c q)) ∧ K w0 w' := by
  have HK := hid k
  have HM := hid fun w => e_may q w
  clear k
  by_cases h0 : c < 0
  · have hb := hid (byI_out c q (fun h => by omega))
    go_enter Tryz.func97, Tryz.ntmps97
    go_wp2
    go_ret
    exact ⟨by rw [hb.out]; rfl, HK.out⟩
  by_cases h1 : 7 < c
  · have hb := hid (byI_out c q (fun h => by omega))
    go_enter Tryz.func97, Tryz.ntmps97
    go_wp2
    go_ret
    exact ⟨by rw [hb.out]; rfl, HK.out⟩
  by_cases hq : May q
  · rw [decide_eq_true hq] at HM
    have HU := hid fun w (k : K w0 w) => r_unit c k
    have HP := hid fun w (k : K w0 w) => r_per c k
    obtain ⟨u1, u2, p1, p2, p3⟩ := small_unit c (by omega) (by omega)
    have HB1 := hid fun n => byI_more' c q n (by omega) (by omega) hq
    have HB2 := hid fun n => byI_le c q n (by omega) (by omega) hq
    have hbs := byI_small c q
    have hb0 := byI_nonneg c q
    have hqq := hq
    unfold May at hqq
    have hk0 : 0 ≤ q / unitI c := Int.ediv_nonneg (by omega) (by omega)
    have hk1 : q / unitI c ≤ 65536 := by
      have := Int.ediv_le_self (unitI c) (show 0 ≤ q by omega); omega
    have hd : Int.tdiv q (unitI c) = q / unitI c := Int.tdiv_eq_ediv_of_nonneg (by omega)
    clear hq
    generalize unitI c = u at *
    generalize perI c = p at *
    generalize byI c q = B at *
    generalize hkk : q / u = k at *
    clear hkk
    have hw : IntKind.i64.wrap k = k := by rw [IntKind.wrap_i64]; omega
    clear p3
    obtain ⟨b, rfl⟩ : ∃ b : Nat, B = (b : Int) := ⟨B.toNat, by omega⟩
    go_enter Tryz.func97, Tryz.ntmps97
    go_wp2_with fail
    refine (HM.out _).mono ?_
    rintro e w1 ⟨rfl, hw1⟩
    obtain rfl := hw1.symm
    clear hw1
    go_wp2_with fail
    refine (HU.out _ HK.out).mono ?_
    rintro e w2 ⟨rfl, hk⟩
    have HK2 := hid hk
    clear hk HK
    go_wp2
    clear hd hw
    go_loopw [6] (fun n wr => ∃ j : Nat, j ≤ b ∧ n = .int .i64 j ∧ Hid (K w0 wr)) (fun n _ => b - (intOf n).toNat)
    case atStart => exact ⟨0, by omega, rfl, HK2⟩
    case round =>
      obtain ⟨j, hj, rfl, HK⟩ := hrel
      have hjp : 0 ≤ (j : Int) * p ∧ (j : Int) * p ≤ 4096 * 32 := by
        refine ⟨Int.mul_nonneg (by omega) (by omega), Int.mul_le_mul (by omega) p2 (by omega) (by decide)⟩
      have hwj : IntKind.i64.wrap ((j : Int) * p) = (j : Int) * p := by rw [IntKind.wrap_i64]; omega
      have hb1 := HB1.out j
      have hb2 := HB2.out j
      by_cases hlt : (j : Int) * p < k
      · have hjb : (j : Int) + 1 ≤ b := hb1 hlt
        clear hb1 hb2
        go_wp2_with fail
        refine (HP.out _ HK.out).mono ?_
        rintro e w3 ⟨rfl, hk⟩
        have HK3 := hid hk
        clear hk HK
        go_wp2
        go_roundw
        case rel => exact ⟨j + 1, by omega, by go_num, HK3⟩
        case measure => simp [intOf]; omega
      · have hjb : (b : Int) ≤ j := hb2 (by omega)
        clear hb1 hb2
        go_wp2_with fail
        refine (HP.out _ HK.out).mono ?_
        rintro e w3 ⟨rfl, hk⟩
        have HK3 := hid hk
        clear hk HK
        go_wp2
        go_ret
        exact ⟨by go_num, HK3.out⟩
  · rw [decide_eq_false hq] at HM
    have hb := hid (byI_out c q (fun h => hq h.2.2))
    clear hq
    go_enter Tryz.func97, Tryz.ntmps97
    go_wp2_with fail
    refine (HM.out _).mono ?_
    rintro e w1 ⟨rfl, hw1⟩
    obtain rfl := hw1.symm
    clear hw1
    go_wp2
    go_ret
    exact ⟨by rw [hb.out]; rfl, HK.out⟩
set_option maxHeartbeats 1000000 in
theorem e_pages (q : Int) {w0 w : World} (k : K w0 w) : Calls Tryz.prog 44 #[.int .i64 q] w fun e w' => e = .returned (.int .i64 (takesI q)) ∧ K w0 w' := by
  have HK := hid k
  have HM := hid fun w => e_may q w
  have HB := hid fun (j : Nat) w (k : K w0 w) => e_by j q k
  clear k
  go_enter Tryz.func44, Tryz.ntmps44
  go_wp2
  go_loopw [3, 4] (fun n i wr => ∃ j : Nat, j ≤ 8 ∧ i = .int .i64 j ∧ n = .int .i64 (sumBy q j) ∧ Hid (K w0 wr)) (fun _ i _ => 8 - (intOf i).toNat)
  case atStart => exact ⟨0, by omega, rfl, rfl, HK⟩
  case round =>
    obtain ⟨j, hj, rfl, rfl, HK⟩ := hrel
    by_cases hlt : j < 8
    · have HB' := hid fun w k => HB.out j w k
      have s0 := sumBy_nonneg q j
      have s1 := sumBy_small q j
      have b0 := byI_nonneg j q
      have b1 := byI_small j q
      have hs : Hid (sumBy q (j + 1) = sumBy q j + byI j q) := rfl
      generalize sumBy q j = s at *
      generalize byI (j : Int) q = b at *
      go_wp2_with fail
      refine (HB'.out _ HK.out).mono ?_
      rintro e w3 ⟨rfl, hk⟩
      have HK3 := hid hk
      clear hk HK HB'
      go_wp2
      go_roundw
      case rel => exact ⟨j + 1, by omega, by go_num, by rw [hs.out], HK3⟩
      case measure => simp [intOf]; omega
    · obtain rfl : j = 8 := by omega
      have s0 := sumBy_nonneg q 8
      have s1 := sumBy_small q 8
      have hs : Hid (takesI q = sumBy q 8 + runsI q) := rfl
      by_cases hq : May q
      · rw [decide_eq_true hq] at HM
        have hr : Hid (runsI q = q / 512) := by show _ = _; unfold runsI; rw [if_pos hq]
        unfold May at hq
        have hd : Int.tdiv q 512 = q / 512 := Int.tdiv_eq_ediv_of_nonneg (by omega)
        generalize sumBy q 8 = s at *
        go_wp2_with fail
        refine (HM.out _).mono ?_
        rintro e w1 ⟨rfl, hw1⟩
        obtain rfl := hw1.symm
        clear hw1
        go_wp2
        go_ret
        exact ⟨by rw [hs.out, hr.out]; go_num, HK.out⟩
      · rw [decide_eq_false hq] at HM
        have hr : Hid (runsI q = 0) := by show _ = _; unfold runsI; rw [if_neg hq]
        generalize sumBy q 8 = s at *
        clear hq
        go_wp2_with fail
        refine (HM.out _).mono ?_
        rintro e w1 ⟨rfl, hw1⟩
        obtain rfl := hw1.symm
        clear hw1
        go_wp2
        go_ret
        exact ⟨by rw [hs.out, hr.out, Int.add_zero]; rfl, HK.out⟩
end Go.Proofs.YtihaifnenjngpaaGreatDoor
