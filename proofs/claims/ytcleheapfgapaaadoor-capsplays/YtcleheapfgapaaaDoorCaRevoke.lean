/-
  What the calls of package caps do: Revoke.
-/
import Derived.Test.YtcleheapfgapaaaDoorCaFree
namespace Go.Proofs.YtcleheapfgapaaaDoor
open Go.RowKit

/-- Revoke under way: the slots below q are done, m of them were freed; q is the next one. -/
structure Rv (w wr : World) (a o ob s sb : Nat) (c : Ct) (x : Int) (q m : Nat) : Prop where
  le : q ≤ 4160
  k : Kt wr a o ob s sb ⟨c.T, c.nx, cut c.L x q⟩
  is : q < 4160 → Is (cut c.L x q) x q
  n : m + (cut c.L x q).length = c.L.length
  f : Fr (fun i => i = a ∨ i = ob ∨ i = sb) w wr
section
variable {w wr w1 w2 : World} {a o ob s sb : Nat} {c : Ct} {x : Int} {p q m : Nat}
theorem cut_to (hc : c.Ok) (hpq : p ≤ q) (h : ∀ i : Nat, p ≤ i → i < q → ¬ Is (cut c.L x p) x i) : cut c.L x q = cut c.L x p :=
  cut_skip hc.srt (by omega) fun i h1 h2 => by
    have := h i.toNat (by omega) (by omega)
    rwa [show ((i.toNat : Nat) : Int) = i by omega] at this
theorem Rv.start (h : Kt w a o ob s sb c) (hq : q ≤ 4160) (hno : ∀ i : Nat, 0 ≤ i → i < q → ¬ Is c.L x i) (his : q < 4160 → Is c.L x q) (f : Fr (fun _ => False) w w1) : Rv w w1 a o ob s sb c x q 0 := by
  have e0 : cut c.L x ((0 : Nat) : Int) = c.L := cut_none fun y hy => by have := (h.ok.kr y hy).1; unfold KR at this; omega
  have e : cut c.L x q = c.L := (cut_to (p := 0) h.ok (by omega) (by rw [e0]; exact hno)).trans e0
  refine ⟨hq, ?_, ?_, ?_, f.mono fun _ _ e => e.elim⟩
  · rw [e]; exact h.kept f
  · rw [e]; exact his
  · rw [e]; omega
theorem Rv.step (h : Rv w wr a o ob s sb c x p m) (hc : c.Ok) (hlt : p < 4160) (k1 : Kt w1 a o ob s sb ⟨c.T, c.nx, del (cut c.L x p) p⟩) (f1 : Fr (fun i => i = a ∨ i = ob ∨ i = sb) wr w1) (hpq : p + 1 ≤ q ∧ q ≤ 4160)
    (hno : ∀ i : Nat, p + 1 ≤ i → i < q → ¬ Is (del (cut c.L x p) p) x i) (his : q < 4160 → Is (del (cut c.L x p) p) x q) (f2 : Fr (fun _ => False) w1 w2) : Rv w w2 a o ob s sb c x q (m + 1) := by
  have e1 : cut c.L x ((p + 1 : Nat) : Int) = del (cut c.L x p) p := by
    rw [show ((p + 1 : Nat) : Int) = (p : Int) + 1 by omega]
    exact cut_step hc.srt (h.is hlt)
  have e : cut c.L x q = del (cut c.L x p) p := (cut_to (p := p + 1) hc hpq.1 (by rw [e1]; exact hno)).trans e1
  refine ⟨hpq.2, ?_, ?_, ?_, (h.f.trans f1).trans (f2.mono fun _ _ e => e.elim)⟩
  · rw [e]; exact k1.kept f2
  · rw [e]; exact his
  · rw [e]
    have h1 := del_len (L := cut c.L x p) (k := p) (cut_srt hc.srt) (by obtain ⟨y, hy, _⟩ := h.is hlt; rw [hy]; exact fun h => by cases h)
    have := h.n
    omega
theorem Rv.stop (h : Rv w wr a o ob s sb c x q m) (hc : c.Ok) (hge : ¬ q < 4160) : Kt wr a o ob s sb (rvS c x) ∧ m = rvN c x := by
  obtain rfl : q = 4160 := by have := h.le; omega
  have e : cut c.L x ((4160 : Nat) : Int) = c.L.filter fun y => decide (y.a ≠ x) := cut_all fun y hy => by have := (hc.kr y hy).1; unfold KR at this; omega
  have hk := h.k
  have hn := h.n
  rw [e] at hk hn
  exact ⟨hk, by unfold rvN; omega⟩
end
section
variable {w : World} {a o ob s sb : Nat} {c : Ct}
set_option maxRecDepth 20000 in
set_option maxHeartbeats 1000000 in
theorem k_revoke (h : Kt w a o ob s sb c) (x : Int) : Calls Tryd.prog 19 #[.pointer (some ⟨a, 0, none⟩), .int .i64 x] w fun e w' => e = .returned (.int .i64 (rvN c x : Int)) ∧ Kt w' a o ob s sb (rvS c x) ∧ Fr (fun i => i = a ∨ i = ob ∨ i = sb) w w' := by
  have HN := hid (k_next h x 0 (by omega))
  have HH := hid h
  have HL : Hid (c.L.length ≤ 4160) := by have := frees_len c.L h.ok.srt fun y hy => by { have := (h.ok.kr y hy).1; unfold KR at this; omega }; show _ ≤ _; omega
  clear h
  go_enter Tryd.func19, Tryd.ntmps19
  go_wp2_with fail
  refine HN.out.mono ?_
  rintro e w1 ⟨q, rfl, ⟨_, hq⟩, hno, his, f1⟩
  have R1 := hid (Rv.start HH.out hq hno his f1)
  clear hq hno his f1 HN
  go_wp2
  go_loopw [5, 6] (fun n i wr => ∃ m p : Nat, n = .int .i64 m ∧ i = .int .i64 p ∧ Rv w wr a o ob s sb c x p m) (fun _ i _ => 4160 - (intOf i).toNat)
  case atStart => exact ⟨0, q, rfl, rfl, R1.out⟩
  case round =>
    clear R1
    obtain ⟨m, p, rfl, rfl, hR⟩ := hrel
    have R := hid hR
    have hm : m ≤ 4160 := by have := hR.n; have := HL.out; omega
    have hp := hR.le
    clear hR
    by_cases hlt : p < 4160
    · have H1 := hid (k_free R.out.k p hlt)
      have H2 := hid fun (w2 : World) (h2 : Kt w2 a o ob s sb ⟨c.T, c.nx, del (cut c.L x p) p⟩) => k_next h2 x (p + 1) (by omega)
      have hpc : ((p + 1 : Nat) : Int) = (p : Int) + 1 := by omega
      rw [hpc] at H2
      clear hpc
      go_wp2_with fail
      refine H1.out.mono ?_
      rintro e w2 ⟨rfl, h2, f2⟩
      have K2 := hid h2
      have F2 := hid f2
      clear h2 f2 H1
      go_wp2_with fail
      refine (H2.out _ K2.out).mono ?_
      rintro e w3 ⟨q', rfl, hq, hno, his, f3⟩
      have R3 := hid (R.out.step HH.out.ok hlt K2.out F2.out hq hno his f3)
      have hq1 := hq.1
      clear hq hno his f3 H2 K2 F2 R
      go_wp2
      go_roundw
      case rel => exact ⟨m + 1, q', by go_num, rfl, R3.out⟩
      case measure => simp [intOf]; omega
    · have HE := hid (R.out.stop HH.out.ok hlt)
      have HF := hid R.out.f
      clear R
      go_wp2
      go_ret
      exact ⟨by rw [← HE.out.2]; simp, HE.out.1, HF.out⟩
end
end Go.Proofs.YtcleheapfgapaaaDoor
