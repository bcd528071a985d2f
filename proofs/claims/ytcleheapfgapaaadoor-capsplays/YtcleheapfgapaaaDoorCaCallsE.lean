/-
  What the calls of package caps do: next, free, Revoke.
-/
import Derived.Test.YtcleheapfgapaaaDoorCaCallsD
namespace Go.Proofs.YtcleheapfgapaaaDoor
open Go.RowKit

section
variable {w : World} {a o ob s sb : Nat} {c : Ct}
theorem is_of (hc : c.Ok) (x k : Int) : (0 < hN c.L k ∧ hA c.L k = x) ↔ Is c.L x k := by
  unfold hN hA Is
  cases hs : sAt c.L k with
  | none => simp
  | some y =>
    have := (hc.kr y (sAt_some hs).1).1
    unfold KR at this
    simp
    omega
set_option maxRecDepth 20000 in
set_option maxHeartbeats 2000000 in
theorem k_next (h : Kt w a o ob s sb c) (x : Int) (p : Nat) (hp : p ≤ 4160) : Calls Tryd.prog 32 #[.pointer (some ⟨a, 0, none⟩), .int .i64 x, .int .i64 p] w fun e w' => ∃ q : Nat, e = .returned (.int .i64 q) ∧ (p ≤ q ∧ q ≤ 4160) ∧ (∀ i : Nat, p ≤ i → i < q → ¬ Is c.L x i) ∧ (q < 4160 → Is c.L x q) ∧ Fr (fun _ => False) w w' := by
  have HS := hid h
  clear h
  go_enter Tryd.func32, Tryd.ntmps32
  go_wp2
  refine wp_scope_jumps 0 (fun a' w' => Fr (fun _ => False) w w' ∧ ∃ (j : Nat) (u7 u8 u9 u10 u11 u12 u13 u14 u15 u16 u17 u18 u19 u20 u21 u22 u23 : Value), a' = { tmps := #[.pointer (some ⟨a, 0, none⟩), .int .i64 x, .int .i64 j, undef, undef, undef, .int .i64 0, u7, u8, u9, u10, u11, u12, u13, u14, u15, u16, u17, u18, u19, u20, u21, u22, u23], defers := [] } ∧ (p ≤ j ∧ j ≤ 4160) ∧ Hid (∀ i : Nat, p ≤ i → i < j → ¬ Is c.L x i)) (fun a' _ => 4160 - (intOf (a'.tmps.getD 2 undef)).toNat) rfl ?first ?pass
  case first =>
    have HF := hid (Fr.refl (fun _ => False) w)
    by_cases hlt : p < 4160
    · have ca := HS.out.ca p hlt
      have cr := HS.out.cr p hlt
      have cn := HS.out.cn p hlt
      have HO := hid fun w => k_of (hA c.L (p : Int)) (hR c.L (p : Int)) (hN c.L (p : Int)) x w
      have hio := is_of HS.out.ok x (p : Int)
      by_cases hi : Is c.L x (p : Int)
      · rw [decide_eq_true (hio.2 hi)] at HO
        have HI := hid hi
        clear hi hio
        generalize hA c.L (p : Int) = xa at *
        generalize hR c.L (p : Int) = xr at *
        generalize hN c.L (p : Int) = xn at *
        go_wp2_with fail
        go_step3
        go_wp2_with fail
        refine (HO.out _).mono ?_
        rintro e w2 ⟨rfl, f2⟩
        have F2 := hid (HF.out.trans f2)
        clear f2
        go_wp2
        rw [jump_ret]
        go_ret
        exact ⟨p, by simp, ⟨by omega, by omega⟩, fun i h1 h2 => by omega, fun _ => HI.out, F2.out⟩
      · rw [decide_eq_false fun h => hi (hio.1 h)] at HO
        have HN2 : Hid (∀ i : Nat, p ≤ i → i < p + 1 → ¬ Is c.L x i) := fun i h1 h2 => by
          by_cases e : i = p
          · subst e; exact hi
          · exact by omega
        clear hi hio
        generalize hA c.L (p : Int) = xa at *
        generalize hR c.L (p : Int) = xr at *
        generalize hN c.L (p : Int) = xn at *
        go_wp2_with fail
        go_step3
        go_wp2_with fail
        refine (HO.out _).mono ?_
        rintro e w2 ⟨rfl, f2⟩
        have F2 := hid (HF.out.trans f2)
        clear f2
        go_wp2
        go_step3
        exact ⟨rfl, F2.out, p + 1, _, _, _, _, _, _, _, _, _, _, _, _, _, _, _, _, _, by go_num, ⟨by omega, by omega⟩, HN2⟩
    · go_wp2_with fail
      go_step3
      go_wp2
      rw [jump_ret]
      go_ret
      exact ⟨p, by simp, ⟨by omega, by omega⟩, fun i h1 h2 => by omega, fun h => by omega, HF.out⟩
  case pass =>
    rintro a' w' ⟨hf, j, u7, u8, u9, u10, u11, u12, u13, u14, u15, u16, u17, u18, u19, u20, u21, u22, u23, rfl, hj, HN⟩
    have HF := hid hf
    have HS := hid (HS.out.kept hf)
    clear hf
    by_cases hlt : j < 4160
    · have ca := HS.out.ca j hlt
      have cr := HS.out.cr j hlt
      have cn := HS.out.cn j hlt
      have HO := hid fun w => k_of (hA c.L (j : Int)) (hR c.L (j : Int)) (hN c.L (j : Int)) x w
      have hio := is_of HS.out.ok x (j : Int)
      by_cases hi : Is c.L x (j : Int)
      · rw [decide_eq_true (hio.2 hi)] at HO
        have HI := hid hi
        clear hi hio
        generalize hA c.L (j : Int) = xa at *
        generalize hR c.L (j : Int) = xr at *
        generalize hN c.L (j : Int) = xn at *
        go_wp2_with fail
        refine (HO.out _).mono ?_
        rintro e w2 ⟨rfl, f2⟩
        have F2 := hid (HF.out.trans f2)
        clear f2
        go_wp2
        rw [jump_ret]
        go_ret
        exact ⟨j, by simp, ⟨by omega, by omega⟩, HN.out, fun _ => HI.out, F2.out⟩
      · rw [decide_eq_false fun h => hi (hio.1 h)] at HO
        have HN2 : Hid (∀ i : Nat, p ≤ i → i < j + 1 → ¬ Is c.L x i) := fun i h1 h2 => by
          by_cases e : i = j
          · subst e; exact hi
          · exact HN.out i h1 (by omega)
        clear hi hio
        generalize hA c.L (j : Int) = xa at *
        generalize hR c.L (j : Int) = xr at *
        generalize hN c.L (j : Int) = xn at *
        go_wp2_with fail
        refine (HO.out _).mono ?_
        rintro e w2 ⟨rfl, f2⟩
        have F2 := hid (HF.out.trans f2)
        clear f2
        go_wp2
        go_step3
        exact ⟨rfl, ⟨F2.out, j + 1, _, _, _, _, _, _, _, _, _, _, _, _, _, _, _, _, _, by go_num, ⟨by omega, by omega⟩, HN2⟩, by simp [intOf]; omega⟩
    · go_wp2_with fail
      go_wp2
      rw [jump_ret]
      go_ret
      exact ⟨j, by simp, ⟨by omega, by omega⟩, HN.out, fun h => by omega, HF.out⟩
end
end Go.Proofs.YtcleheapfgapaaaDoor
