/-
  However blocks are asked for and given back: what always holds of the pages. Plain mathematics: nothing of the program is named here but what 'put' does to numbers.
-/
import Derived.Test.YtcfeeeloceeicaaDoorDmBase
import Derived.Test.YtcfeeeloceeicaaDoorDmMet
namespace Go.Proofs.YtcfeeeloceeicaaDoor

/-- How many of some pages have a block. -/
def live : List Int → Int
  | [] => 0
  | x :: l => (if 0 < x then 1 else 0) + live l
theorem live_append : ∀ l m : List Int, live (l ++ m) = live l + live m
  | [], m => by simp [live]
  | x :: l, m => by simp only [List.cons_append, live, live_append l m]; omega
theorem live_range : ∀ l : List Int, 0 ≤ live l ∧ live l ≤ l.length
  | [] => ⟨Int.le_refl _, Int.le_refl _⟩
  | x :: l => by
    have := live_range l
    simp only [live, List.length_cons, Int.natCast_add]
    split <;> simp <;> omega
theorem live_set : ∀ (l : List Int) (i : Nat) (h : i < l.length) (u : Int), live (l.set i u) = live l - (if 0 < l[i] then 1 else 0) + (if 0 < u then 1 else 0)
  | x :: l, 0, _, u => by simp [live]; omega
  | x :: l, i + 1, h, u => by
    have := live_set l i (by simpa using h) u
    simp only [List.set_cons_succ, live, List.getElem_cons_succ, this]; omega
/-- Where no page has room, all that have a block are full. -/
theorem live_full {per : Int} : ∀ (l : List Int), (∀ x ∈ l, 0 ≤ x) → (∀ x ∈ l, ¬ (0 < x ∧ x < per)) → live l * per ≤ sumL l
  | [], _, _ => by simp [live, sumL]
  | x :: l, h0, h => by
    have h1 := live_full l (fun y hy => h0 y (by simp [hy])) (fun y hy => h y (by simp [hy]))
    have h2 := h x (by simp)
    have h3 := h0 x (by simp)
    simp only [live, sumL]
    split
    · rw [Int.add_mul, Int.one_mul]; omega
    · rw [Int.zero_add]; omega
theorem live_all : ∀ (l : List Int), (∀ x ∈ l, 0 ≤ x) → (∀ x ∈ l, x ≠ 0) → live l = l.length
  | [], _, _ => rfl
  | x :: l, h0, h => by
    have h1 := live_all l (fun y hy => h0 y (by simp [hy])) (fun y hy => h y (by simp [hy]))
    have h2 := h x (by simp)
    have h3 := h0 x (by simp)
    simp only [live, List.length_cons, Int.natCast_add, h1]
    rw [if_pos (by omega)]
    simp
    omega
/-- Of all small kinds. -/
def liveS (xs : Nat → List Int) : Nat → Int
  | 0 => 0
  | k + 1 => liveS xs k + live (xs k)
def upd {α : Type} (f : Nat → α) (c : Nat) (y : α) : Nat → α := fun d => if d = c then y else f d
theorem upd_at {α : Type} (f : Nat → α) (c : Nat) (y : α) : upd f c y c = y := by simp [upd]
theorem upd_ne {α : Type} (f : Nat → α) {c d : Nat} (y : α) (h : d ≠ c) : upd f c y d = f d := by simp [upd, h]
theorem liveS_ge (xs : Nat → List Int) (c : Nat) (y : List Int) : ∀ k, k ≤ c → liveS (upd xs c y) k = liveS xs k
  | 0, _ => rfl
  | k + 1, h => by simp only [liveS, liveS_ge xs c y k (by omega), upd_ne xs y (show k ≠ c by omega)]
theorem liveS_upd (xs : Nat → List Int) (c : Nat) (y : List Int) : ∀ k, c < k → liveS (upd xs c y) k = liveS xs k - live (xs c) + live y
  | 0, h => by omega
  | k + 1, h => by
    simp only [liveS]
    by_cases e : k = c
    · subst e
      rw [liveS_ge xs k y k (Nat.le_refl _), upd_at]; omega
    · rw [liveS_upd xs c y k (by omega), upd_ne xs y e]; omega

/-- What blocks cost together; what the runs among them take. -/
def chargeT : List (Int × Int) → Int
  | [] => 0
  | b :: l => unitI b.1 + chargeT l
def runT : List (Int × Int) → Int
  | [] => 0
  | b :: l => (if 8 ≤ b.1 then pagesI b.1 else 0) + runT l
theorem chargeT_append : ∀ l m, chargeT (l ++ m) = chargeT l + chargeT m
  | [], m => by simp [chargeT]
  | b :: l, m => by simp only [List.cons_append, chargeT, chargeT_append l m]; omega
theorem runT_append : ∀ l m, runT (l ++ m) = runT l + runT m
  | [], m => by simp [runT]
  | b :: l, m => by simp only [List.cons_append, runT, runT_append l m]; omega
def Kinds (T : List (Int × Int)) : Prop := ∀ b ∈ T, 0 ≤ b.1 ∧ b.1 ≤ 23
theorem chargeT_run : ∀ {T : List (Int × Int)}, Kinds T → 0 ≤ runT T ∧ runT T * 512 ≤ chargeT T ∧ (T.length : Int) * 16 ≤ chargeT T
  | [], _ => by simp [chargeT, runT]
  | b :: l, h => by
    obtain ⟨h1, h2, h3⟩ := chargeT_run (T := l) fun x hx => h x (by simp [hx])
    obtain ⟨b0, b1⟩ := h b (by simp)
    have u := unitI_range b.1 b0 b1
    simp only [chargeT, runT, List.length_cons, Int.natCast_add]
    split
    · have e := pages_unit b.1 (by omega) b1
      rw [Int.add_mul, e, Int.add_mul]
      refine ⟨by omega, by omega, by simp; omega⟩
    · rw [Int.zero_add, Int.add_mul]
      refine ⟨by omega, by omega, by simp; omega⟩
/-- How many blocks lie in the first m pages of a kind. -/
def inPages (c : Int) (m : Nat) : List (Int × Int) → Int
  | [] => 0
  | b :: l => (if b.1 = c ∧ 0 ≤ b.2 ∧ b.2 < m then 1 else 0) + inPages c m l
theorem inPages_succ (c : Int) (m : Nat) : ∀ T, inPages c (m + 1) T = inPages c m T + (T.count (c, (m : Int)) : Int)
  | [] => by simp [inPages]
  | b :: l => by
    simp only [inPages, inPages_succ c m l, List.count_cons]
    by_cases e : b = (c, (m : Int))
    · subst e
      simp
      omega
    · have e2 : (b == (c, (m : Int))) = false := by simpa using e
      rw [e2]
      have e3 : (b.1 = c ∧ 0 ≤ b.2 ∧ b.2 < ((m + 1 : Nat) : Int)) ↔ (b.1 = c ∧ 0 ≤ b.2 ∧ b.2 < (m : Int)) := by
        constructor
        · rintro ⟨h1, h2, h3⟩
          refine ⟨h1, h2, ?_⟩
          have : b.2 ≠ m := fun h => e (by cases b; simp_all)
          omega
        · rintro ⟨h1, h2, h3⟩
          exact ⟨h1, h2, by omega⟩
      simp only [e3]
      simp
      omega
theorem inPages_charge {c : Int} {m : Nat} : ∀ {T : List (Int × Int)}, Kinds T → 0 ≤ inPages c m T ∧ inPages c m T * unitI c ≤ chargeT T
  | [], _ => by simp [inPages, chargeT]
  | b :: l, h => by
    obtain ⟨h1, h2⟩ := inPages_charge (c := c) (m := m) (T := l) fun x hx => h x (by simp [hx])
    obtain ⟨b0, b1⟩ := h b (by simp)
    have u := unitI_range b.1 b0 b1
    simp only [inPages, chargeT]
    split
    · rename_i hh
      obtain ⟨hc, _⟩ := hh
      subst hc
      rw [Int.add_mul, Int.one_mul]
      omega
    · rw [Int.zero_add]
      omega
theorem inPages_zero (c : Int) : ∀ T, inPages c 0 T = 0
  | [] => rfl
  | b :: l => by simp only [inPages, inPages_zero c l]; rw [if_neg (by omega)]; rfl
/-- The blocks of a kind are what its pages have. -/
theorem sum_in {c : Int} {T : List (Int × Int)} : ∀ (m : Nat) (l : List Int), l.length = m → (∀ p (h : p < l.length), l[p] = (T.count (c, (p : Int)) : Int)) → sumL l = inPages c m T
  | 0, l, hl, _ => by
    obtain rfl : l = [] := List.eq_nil_of_length_eq_zero hl
    rw [inPages_zero]; rfl
  | m + 1, l, hl, h => by
    have hne : l ≠ [] := by intro e; subst e; simp at hl
    have e := List.dropLast_concat_getLast hne
    have hd : l.dropLast.length = m := by simp [hl]
    have ih := sum_in (c := c) (T := T) m l.dropLast hd (fun p hp => by
      rw [List.getElem_dropLast]; exact h p (by rw [hd] at hp; omega))
    have hlast : l.getLast hne = (T.count (c, (m : Int)) : Int) := by
      rw [List.getLast_eq_getElem]
      have := h (l.length - 1) (by omega)
      simp only [hl, Nat.add_sub_cancel] at this ⊢
      exact this
    rw [← e, sumL_append, ih, inPages_succ, hlast]
    simp [sumL]

/-- What always holds: each block is of a kind and in a page of it; each page has its blocks; what they cost is within the quota; as many pages are there as have blocks, and as the runs take; no kind has more than it may. -/
structure Inv (q : Int) (T : List (Int × Int)) (xs : Nat → List Int) (n chg : Int) : Prop where
  may : May q
  kinds : Kinds T
  runs : ∀ b ∈ T, b.1 < 8 → 0 ≤ b.2 ∧ b.2 < (xs b.1.toNat).length
  cnt : ∀ c : Nat, c < 8 → ∀ p (h : p < (xs c).length), (xs c)[p] = (T.count ((c : Int), (p : Int)) : Int)
  cost : chg = chargeT T
  fits : chg ≤ q
  num : n = liveS xs 8 + runT T
  few : ∀ c : Nat, c < 8 → live (xs c) ≤ byI c q ∧ ((xs c).length : Int) ≤ byI c q
theorem Inv.start {q : Int} (h : May q) : Inv q [] (fun _ => []) 0 0 :=
  ⟨h, fun b hb => (by cases hb), fun b hb => (by cases hb), fun c _ p hp => (by simp at hp), rfl, by unfold May at h; omega, rfl, fun c _ => by have := byI_nonneg c q; simp [live]; exact this⟩
theorem liveS_le {q : Int} {xs : Nat → List Int} : ∀ k, k ≤ 8 → (∀ c : Nat, c < 8 → live (xs c) ≤ byI c q) → liveS xs k ≤ sumBy q k ∧ 0 ≤ liveS xs k
  | 0, _, _ => ⟨Int.le_refl _, Int.le_refl _⟩
  | k + 1, hk, h => by
    have h1 := liveS_le k (by omega) h
    have h2 := h k (by omega)
    have h3 := (live_range (xs k)).1
    simp only [liveS, sumBy]; omega
section
variable {q : Int} {T : List (Int × Int)} {xs : Nat → List Int} {n chg : Int}
theorem Inv.pages (h : Inv q T xs n chg) : 0 ≤ n ∧ n ≤ takesI q := by
  obtain ⟨a, b⟩ := liveS_le 8 (Nat.le_refl _) fun c hc => (h.few c hc).1
  obtain ⟨r0, r1, _⟩ := chargeT_run h.kinds
  have hc := h.cost
  have hf := h.fits
  have hn := h.num
  unfold takesI runsI
  rw [if_pos h.may]
  omega
theorem Inv.nums (h : Inv q T xs n chg) : T.length ≤ 4096 ∧ 0 ≤ chg ∧ chg ≤ 65536 := by
  obtain ⟨r0, r1, r2⟩ := chargeT_run h.kinds
  have hc := h.cost
  have hf := h.fits
  have hm := h.may
  unfold May at hm
  omega
theorem Inv.pos (h : Inv q T xs n chg) (c : Nat) (hc : c < 8) : ∀ x ∈ xs c, 0 ≤ x := fun x hx => by
  obtain ⟨p, hp, rfl⟩ := List.getElem_of_mem hx
  rw [h.cnt c hc p hp]
  omega
theorem kinds_more {c p : Int} (h : Kinds T) (h0 : 0 ≤ c) (h1 : c ≤ 23) : Kinds (T ++ [(c, p)]) := fun b hb => by
  rcases List.mem_append.1 hb with hb | hb
  · exact h b hb
  · simp at hb; subst hb; exact ⟨h0, h1⟩
/-- A run is asked for. -/
theorem Inv.run (h : Inv q T xs n chg) (c : Int) (h0 : 8 ≤ c) (h1 : c ≤ 23) (hf : chg + unitI c ≤ q) : Inv q (T ++ [(c, -1)]) xs (n + pagesI c) (chg + unitI c) := by
  refine ⟨h.may, kinds_more h.kinds (by omega) h1, fun b hb hs => ?_, fun d hd p hp => ?_, by rw [chargeT_append, h.cost]; simp [chargeT], hf, ?_, h.few⟩
  · rcases List.mem_append.1 hb with hb | hb
    · exact h.runs b hb hs
    · simp at hb; subst hb; simp only at hs; omega
  · rw [h.cnt d hd p hp, List.count_append]
    have : List.count ((d : Int), (p : Int)) [(c, -1)] = 0 := by
      rw [List.count_eq_zero]
      simp
    rw [this]; rfl
  · rw [runT_append, h.num]
    simp only [runT]
    rw [if_pos h0]; omega
/-- A small block is asked for. -/
theorem Inv.small (h : Inv q T xs n chg) (c : Nat) (hc : c < 8) (hf : chg + unitI c ≤ q) {i : Nat} {ys : List Int} {n' : Int} (k : Put (perI c) (xs c) n i ys n') : Inv q (T ++ [((c : Int), (i : Int))]) (upd xs c ys) n' (chg + unitI c) := by
  have hpos := h.pos c hc
  obtain ⟨u1, _, p1, _, _⟩ := small_unit c (by omega) (by omega)
  have hsum := sum_in (c := (c : Int)) (T := T) (xs c).length (xs c) rfl (h.cnt c hc)
  have hch := (inPages_charge (c := (c : Int)) (m := (xs c).length) h.kinds).2
  rw [← hsum, ← h.cost] at hch
  have hiy : i < ys.length := by
    rcases k with ⟨hi, _, _, rfl, _⟩ | ⟨_, _, ⟨hi, _, rfl⟩ | ⟨_, rfl, rfl⟩⟩
    · simpa using hi
    · simpa using hi
    · simp
  have hlen : (xs c).length ≤ ys.length := by
    rcases k with ⟨_, _, _, rfl, _⟩ | ⟨_, _, ⟨_, _, rfl⟩ | ⟨_, _, rfl⟩⟩ <;> simp
  have hcnt0 : ∀ p : Nat, (xs c).length ≤ p → T.count ((c : Int), (p : Int)) = 0 := fun p hp => by
    rw [List.count_eq_zero]
    intro hm
    have := h.runs _ hm (by simp; omega)
    simp at this
    omega
  have hys : ∀ p (hp : p < ys.length), ys[p] = (T.count ((c : Int), (p : Int)) : Int) + (if p = i then 1 else 0) := by
    intro p hp
    rcases k with ⟨hi, _, _, rfl, _⟩ | ⟨_, _, ⟨hi, hz, rfl⟩ | ⟨_, rfl, rfl⟩⟩
    · rw [List.getElem_set]
      by_cases e : i = p
      · subst e
        rw [if_pos rfl, if_pos rfl, h.cnt c hc]
      · rw [if_neg e, if_neg (fun h => e h.symm), h.cnt c hc]; simp
    · rw [List.getElem_set]
      by_cases e : i = p
      · subst e
        rw [if_pos rfl, if_pos rfl, ← h.cnt c hc i hi, hz]; rfl
      · rw [if_neg e, if_neg (fun h => e h.symm), h.cnt c hc]; simp
    · by_cases e : p < (xs c).length
      · rw [List.getElem_append_left e, if_neg (by omega), h.cnt c hc]; simp
      · obtain rfl : p = (xs c).length := by simp at hp; omega
        rw [if_pos rfl, hcnt0 _ (Nat.le_refl _)]
        simp
  have hbound : live ys ≤ byI c q ∧ (ys.length : Int) ≤ byI c q ∧ n' - n = live ys - live (xs c) := by
    obtain ⟨f1, f2⟩ := h.few c hc
    rcases k with ⟨hi, x0, _, rfl, rfl⟩ | ⟨hno, rfl, k⟩
    · rw [live_set _ _ hi, if_pos x0, if_pos (by omega), List.length_set]
      omega
    · have hfull := live_full (xs c) hpos hno
      have hm : ((live (xs c)) * perI c + 1) * unitI c ≤ q := by
        have := Int.mul_le_mul_of_nonneg_right hfull (show 0 ≤ unitI c by omega)
        rw [Int.add_mul, Int.one_mul]
        omega
      have hmore := byI_more c q (live (xs c)) (by omega) (by omega) h.may hm
      rcases k with ⟨hi, hz, rfl⟩ | ⟨hnz, rfl, rfl⟩
      · rw [live_set _ _ hi, hz, List.length_set]
        simp
        omega
      · have hall := live_all (xs c) hpos hnz
        rw [live_append, List.length_append]
        simp [live]
        omega
  refine ⟨h.may, kinds_more h.kinds (by omega) (by omega), fun b hb hs => ?_, fun d hd p hp => ?_, by rw [chargeT_append, h.cost]; simp [chargeT], hf, ?_, fun d hd => ?_⟩
  · rcases List.mem_append.1 hb with hb | hb
    · have := h.runs b hb hs
      by_cases e : b.1.toNat = c
      · rw [e] at this ⊢
        rw [upd_at]
        omega
      · rw [upd_ne _ _ e]; exact this
    · simp at hb
      subst hb
      simp only [Int.toNat_natCast, upd_at]
      omega
  · rw [List.count_append]
    by_cases e : d = c
    · subst e
      simp only [upd_at] at hp ⊢
      rw [hys p hp]
      by_cases e2 : p = i
      · subst e2; simp
      · have : List.count ((d : Int), (p : Int)) [((d : Int), (i : Int))] = 0 := by
          rw [List.count_eq_zero]; simp; omega
        rw [if_neg e2, this]; simp
    · simp only [upd_ne _ _ e] at hp ⊢
      have : List.count ((d : Int), (p : Int)) [((c : Int), (i : Int))] = 0 := by
        rw [List.count_eq_zero]; simp; omega
      rw [h.cnt d hd p hp, this]; simp
  · rw [runT_append, liveS_upd _ _ _ _ (by omega)]
    simp only [runT]
    rw [if_neg (by omega)]
    have := h.num
    omega
  · by_cases e : d = c
    · subst e; rw [upd_at]; exact ⟨hbound.1, hbound.2.1⟩
    · rw [upd_ne _ _ e]; exact h.few d hd
end
/-- A block is given back. -/
theorem chargeT_mid (A C : List (Int × Int)) (b : Int × Int) : chargeT (A ++ b :: C) = chargeT (A ++ C) + unitI b.1 := by
  rw [chargeT_append, chargeT_append]; simp only [chargeT]; omega
theorem runT_mid (A C : List (Int × Int)) (b : Int × Int) : runT (A ++ b :: C) = runT (A ++ C) + (if 8 ≤ b.1 then pagesI b.1 else 0) := by
  rw [runT_append, runT_append]; simp only [runT]; omega
theorem count_mid (A C : List (Int × Int)) (b x : Int × Int) : ((A ++ b :: C).count x : Int) = ((A ++ C).count x : Int) + (if b = x then 1 else 0) := by
  rw [List.count_append, List.count_append, List.count_cons]
  by_cases e : b = x
  · subst e; simp; omega
  · rw [if_neg e]
    have : (b == x) = false := by simpa using e
    rw [this]; simp
theorem mem_mid {A C : List (Int × Int)} {b x : Int × Int} (h : x ∈ A ++ C) : x ∈ A ++ b :: C := by
  rcases List.mem_append.1 h with h | h
  · exact List.mem_append.2 (.inl h)
  · exact List.mem_append.2 (.inr (List.mem_cons_of_mem _ h))
section
variable {q : Int} {A C : List (Int × Int)} {xs : Nat → List Int} {n chg : Int} {b : Int × Int}
theorem Inv.giveRun (h : Inv q (A ++ b :: C) xs n chg) (hb : 8 ≤ b.1) : Inv q (A ++ C) xs (n - pagesI b.1) (chg - unitI b.1) := by
  obtain ⟨k0, k1⟩ := h.kinds b (by simp)
  have u := unitI_range b.1 k0 k1
  have hc := h.cost
  have hn := h.num
  have hf := h.fits
  rw [chargeT_mid] at hc
  rw [runT_mid, if_pos hb] at hn
  refine ⟨h.may, fun x hx => h.kinds x (mem_mid hx), fun x hx hs => h.runs x (mem_mid hx) hs, fun d hd p hp => ?_, by omega, by omega, by omega, h.few⟩
  have := h.cnt d hd p hp
  rw [count_mid, if_neg (fun e => by rw [e] at hb; simp only at hb; omega)] at this
  omega
theorem Inv.giveSmall (h : Inv q (A ++ b :: C) xs n chg) {c p : Nat} (hb : b = ((c : Int), (p : Int))) (hc : c < 8) : ∃ hp : p < (xs c).length, 0 < (xs c)[p] ∧ Inv q (A ++ C) (upd xs c ((xs c).set p ((xs c)[p] - 1))) (if (xs c)[p] - 1 = 0 then n - 1 else n) (chg - unitI c) := by
  have hr := h.runs b (by simp) (by rw [hb]; simp; omega)
  rw [hb] at hr
  simp only [Int.toNat_natCast] at hr
  have hp : p < (xs c).length := by omega
  refine ⟨hp, ?_⟩
  have hcp := h.cnt c hc p hp
  rw [count_mid, if_pos hb] at hcp
  have hx : 0 < (xs c)[p] := by omega
  refine ⟨hx, ?_⟩
  have u := unitI_range c (by omega) (by omega)
  have hcost := h.cost
  have hn := h.num
  have hf := h.fits
  rw [chargeT_mid, hb] at hcost
  rw [runT_mid, if_neg (by rw [hb]; simp only; omega)] at hn
  simp only at hcost
  have hl : live ((xs c).set p ((xs c)[p] - 1)) = live (xs c) - 1 + (if 0 < (xs c)[p] - 1 then 1 else 0) := by rw [live_set _ _ hp, if_pos hx]
  refine ⟨h.may, fun x hx => h.kinds x (mem_mid hx), fun x hx hs => ?_, fun d hd p' hp' => ?_, by omega, by omega, ?_, fun d hd => ?_⟩
  · have := h.runs x (mem_mid hx) hs
    by_cases e : x.1.toNat = c
    · rw [e] at this ⊢; rw [upd_at, List.length_set]; exact this
    · rw [upd_ne _ _ e]; exact this
  · by_cases e : d = c
    · subst e
      simp only [upd_at] at hp' ⊢
      rw [List.getElem_set]
      by_cases e2 : p = p'
      · subst e2
        rw [if_pos rfl]; omega
      · rw [if_neg e2]
        have hp2 : p' < (xs d).length := by simpa using hp'
        have := h.cnt d hd p' hp2
        rw [count_mid, if_neg (fun e3 => by rw [hb] at e3; simp at e3; omega)] at this
        omega
    · simp only [upd_ne _ _ e] at hp' ⊢
      have := h.cnt d hd p' hp'
      rw [count_mid, if_neg (fun e3 => by rw [hb] at e3; simp at e3; omega)] at this
      omega
  · rw [liveS_upd _ _ _ _ hc, hl]
    split <;> split <;> omega
  · by_cases e : d = c
    · subst e
      rw [upd_at, hl, List.length_set]
      have := h.few d hd
      split <;> omega
    · rw [upd_ne _ _ e]; exact h.few d hd
end
end Go.Proofs.YtcfeeeloceeicaaDoor
