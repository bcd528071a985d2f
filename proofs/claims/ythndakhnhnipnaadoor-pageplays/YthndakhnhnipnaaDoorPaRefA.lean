/-
  How many blocks of the document's page are had: counted, and as the document counts them.
-/
import Derived.Test.YthndakhnhnipnaaDoorPaMem
namespace Go.Proofs.YthndakhnhnipnaaDoor
open Go.RowKit
open An

theorem len_le : ∀ (l m : List Nat), l.Nodup → (∀ x ∈ l, x ∈ m) → l.length ≤ m.length
  | [], m, _, _ => by simp
  | x :: l, m, hn, h => by
    rw [List.nodup_cons] at hn
    have hx := h x (List.mem_cons_self ..)
    have h1 := len_le l (m.erase x) hn.2 fun y hy => (List.mem_erase_of_ne (show y ≠ x from fun e => hn.1 (e ▸ hy))).2 (h y (List.mem_cons_of_mem _ hy))
    rw [List.length_erase_of_mem hx] at h1
    have := List.length_pos_of_mem hx
    simp only [List.length_cons]
    omega
theorem len_eq {l m : List Nat} (h1 : l.Nodup) (h2 : m.Nodup) (h : ∀ x, x ∈ l ↔ x ∈ m) : l.length = m.length := Nat.le_antisymm (len_le l m h1 fun x hx => (h x).1 hx) (len_le m l h2 fun x hx => (h x).2 hx)
/-- Which of 32 blocks are had. -/
def hads (g : Pg) : List Bool := (List.range 32).map fun i => decide (g.Had i)
theorem hads_length (g : Pg) : (hads g).length = 32 := by simp [hads]
theorem hads_get (g : Pg) (j : Nat) (hj : j < 32) : (hads g)[j]'(by rw [hads_length]; exact hj) = decide (g.Had j) := by simp [hads]
theorem Pg.Ok.counted {g : Pg} {bs : List UInt8} (h : g.Ok bs) : (hads g).count true = g.used := by
  have hp := (kind_facts g.kind h.kind).2.1.2
  have hfr := h.fr
  have e1 : (hads g).count true = ((List.range 32).filter fun i => decide (g.Had i)).length := by
    unfold hads
    rw [List.count_eq_countP, List.countP_map, List.countP_eq_length_filter]
    congr 2
    funext i
    simp
  have hnF : ((List.range 32).filter fun i => decide (g.Had i)).Nodup := List.nodup_range.filter _
  have e2 : (((List.range 32).filter fun i => decide (g.Had i)) ++ (g.R ++ g.D)).length = (List.range g.fresh).length := by
    apply len_eq
    · rw [List.nodup_append]
      refine ⟨hnF, h.nd, fun a ha b hb e => ?_⟩
      subst e
      simp only [List.mem_filter, List.mem_range, decide_eq_true_eq] at ha
      rw [List.mem_append] at hb
      rcases hb with hb | hb
      · exact ha.2.2.1 hb
      · exact ha.2.2.2 hb
    · exact List.nodup_range
    · intro x
      simp only [List.mem_append, List.mem_filter, List.mem_range, decide_eq_true_eq]
      constructor
      · rintro (hx | hx)
        · exact hx.2.1
        · exact h.lt x (List.mem_append.2 hx)
      · intro hx
        by_cases h1 : x ∈ g.R
        · exact .inr (.inl h1)
        · by_cases h2 : x ∈ g.D
          · exact .inr (.inr h2)
          · exact .inl ⟨by omega, hx, h1, h2⟩
  rw [List.length_append, List.length_append, List.length_range] at e2
  unfold Pg.used
  omega
theorem count_step (hd : List Bool) (j : Nat) (hj : j < hd.length) : (hd.take (j + 1)).count true = (hd.take j).count true + (if hd[j] then 1 else 0) := by
  rw [List.take_succ_eq_append_getElem hj, List.count_append, List.count_singleton]
  cases hd[j] <;> rfl
section
variable {w : World} {p r rd wt : Nat} {at_ of_ fresh : Int} {hd : List Bool}
set_option maxRecDepth 20000 in
set_option maxHeartbeats 1000000 in
theorem s_used (h : Rw12 w p r at_ of_ fresh hd rd wt) : Calls Tryd.prog 18 #[.pointer (some ⟨p, 0, none⟩)] w fun e w' => e = .returned (.int .i64 ((hd.count true : Nat) : Int)) ∧ w' = w := by
  have H0 := hid h
  have hl := h.len
  clear h
  go_enter Tryd.func18, Tryd.ntmps18
  go_wp2
  go_loopw [3, 4] (fun n i wr => ∃ j : Nat, j ≤ 32 ∧ i = .int .i64 j ∧ n = .int .i64 (((hd.take j).count true : Nat) : Int) ∧ wr = w) (fun _ i _ => 32 - (intOf i).toNat)
  case atStart => exact ⟨0, by omega, rfl, by simp, rfl⟩
  case round =>
    obtain ⟨j, hj, rfl, rfl, hw⟩ := hrel
    subst hw
    have hcl : (hd.take j).count true ≤ 32 := Nat.le_trans List.count_le_length (by rw [List.length_take]; omega)
    by_cases hlt : j < 32
    · have hc := H0.out.had j hlt
      have HS := hid (count_step hd j (by omega))
      generalize hb : hd[j]'(by omega) = b at hc HS
      have hw1 := wrapI (((hd.take j).count true : Nat) + 1 : Int) (by omega) (by omega)
      clear H0 hb
      cases b with
      | true =>
        go_wp2
        go_roundw
        case rel => exact ⟨j + 1, by omega, by go_num, by rw [HS.out]; simp, trivial⟩
        case measure => simp [intOf]; omega
      | false =>
        go_wp2
        go_roundw
        case rel => exact ⟨j + 1, by omega, by go_num, by rw [HS.out]; simp, trivial⟩
        case measure => simp [intOf]; omega
    · obtain rfl : j = 32 := by omega
      have HE : Hid (hd.take 32 = hd) := List.take_of_length_le (by omega)
      go_wp2
      go_ret
      exact ⟨by rw [HE.out]; simp, rfl⟩
/-- Is it full? -/
theorem s_full {g : Pg} {bs : List UInt8} (ht : Tab w) (ok : g.Ok bs) (h : Rw12 w p r at_ g.kind fresh (hads g) rd wt) : Calls Tryd.prog 20 #[.pointer (some ⟨p, 0, none⟩)] w fun e w' => e = .returned (.bool (decide g.Full)) ∧ Fr (fun _ => False) w w' := by
  have H1 : Hid (∀ w0, Fr (fun _ => False) w w0 → Calls Tryd.prog 18 #[.pointer (some ⟨p, 0, none⟩)] w0 fun e w' => e = .returned (.int .i64 g.used) ∧ w' = w0) := fun w0 f => by
    have := s_used (h.carry f id)
    rw [ok.counted] at this
    exact this
  have H2 : Hid (∀ w0, Fr (fun _ => False) w w0 → Calls Tryd.prog 31 #[.int .i64 g.kind] w0 fun e w' => e = .returned (.int .i64 (pp g.kind)) ∧ Fr (fun _ => False) w0 w') := fun w0 f => (r_per g.kind (K.start (ht.carry f id))).mono fun e w' ⟨he, k⟩ => ⟨by rw [he, (kind_facts g.kind ok.kind).2.2.2.2], k.fr⟩
  have c2 := h.c2
  have HF : Hid (((g.used : Int) == (pp g.kind : Int)) = decide g.Full) := by
    show _ = decide (g.used = pp g.kind)
    by_cases e : g.used = pp g.kind
    · rw [decide_eq_true e, e]; simp
    · rw [decide_eq_false e]; simp; omega
  have HC : Hid (∀ w2, Fr (fun _ => False) w.drew w2 → w2.cell? ⟨p, 2, none⟩ = some (.int .i64 g.kind)) := fun w2 f => (h.carry ((Fr.refl (fun _ => False) w).drew.trans f) id).c2
  clear h ok ht
  generalize decide g.Full = v at *
  go_enter Tryd.func20, Tryd.ntmps20
  go_wp2_with fail
  go_region_held3 (fun w' => w'.cell? ⟨p, 2, none⟩ = some (.int .i64 g.kind)) (first | (show World.cell? _ _ = _; assumption) | go_keep) (first | (go_at_call 18; refine (H1.out _ (Fr.refl _ _).drew).mono ?_; rintro e w1 ⟨rfl, rfl⟩) | (go_at_call 31; refine (H2.out _ (Fr.refl _ _).drew).mono ?_; rintro e w2 ⟨rfl, f2⟩; have F2 := hid f2; have d2 : w2.cell? ⟨p, 2, none⟩ = some (.int .i64 g.kind) := HC.out _ f2; clear f2))
  go_wp2
  go_ret
  exact ⟨by rw [← HF.out]; simp, (Fr.refl (fun _ => False) w).drew.trans F2.out⟩
end
end Go.Proofs.YthndakhnhnipnaaDoor
