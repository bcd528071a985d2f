/-
  What the calls of package caps do: Count, Serial, and all of a table that is none.
-/
import Derived.Test.YtcleheapfgapaaaDoorCaCopy
namespace Go.Proofs.YtcleheapfgapaaaDoor
open Go.RowKit

section
variable {w : World} {a o ob s sb : Nat} {c : Ct}
set_option maxRecDepth 20000 in
theorem k_taken {b : Nat} {has : List Bool} (h : Sf.Sh w a b has) : Calls Tryd.prog 35 #[.pointer (some ⟨a, 0, none⟩)] w fun e w' => e = .returned (.int .i64 ((has.length - Sf.frees has : Nat) : Int)) ∧ Fr (fun _ => False) w w' := by
  have H1 := hid fun (w0 : World) (h : Sf.Sh w0 a b has) => Sf.s_size h
  have H2 := hid fun (w0 : World) (h : Sf.Sh w0 a b has) => Sf.s_free h
  have hle := h.le
  have hfl := Sf.frees_le has
  have HH := hid h
  have hsub : ((has.length - Sf.frees has : Nat) : Int) = (has.length : Int) - (Sf.frees has : Int) := by omega
  rw [hsub]
  clear h hsub
  generalize has.length = n at *
  generalize Sf.frees has = m at *
  go_enter Tryd.func35, Tryd.ntmps35
  go_wp2_with fail
  refine (H1.out _ HH.out).mono ?_
  rintro e w2 ⟨rfl, hw⟩
  obtain rfl := hw.symm
  go_wp2_with fail
  refine (H2.out _ HH.out).mono ?_
  rintro e w2 ⟨rfl, hw⟩
  obtain rfl := hw.symm
  go_wp2
  go_ret
  exact ⟨by simp, Fr.refl _ _⟩
set_option maxRecDepth 20000 in
theorem k_count (h : Kt w a o ob s sb c) : Calls Tryd.prog 23 #[.pointer (some ⟨a, 0, none⟩)] w fun e w' => e = .returned (.int .i64 (c.L.length : Int)) ∧ Fr (fun _ => False) w w' := by
  have hl := frees_len c.L h.ok.srt fun y hy => by { have := (h.ok.kr y hy).1; unfold KR at this; omega }
  have l1 := Sf.frees_le (tkn c.L 0 4096)
  have l2 := Sf.frees_le (tkn c.L 4096 64)
  rw [tkn_length] at l1 l2
  have H1 := hid fun (w0 : World) (h : Kt w0 a o ob s sb c) => k_taken h.sho
  have H2 := hid fun (w0 : World) (h : Kt w0 a o ob s sb c) => k_taken h.shs
  rw [tkn_length] at H1 H2
  have hsum : (c.L.length : Int) = ((4096 - Sf.frees (tkn c.L 0 4096) : Nat) : Int) + ((64 - Sf.frees (tkn c.L 4096 64) : Nat) : Int) := by omega
  rw [hsum]
  clear hsum hl
  have m1 : 4096 - Sf.frees (tkn c.L 0 4096) ≤ 4096 := by omega
  have m2 : 64 - Sf.frees (tkn c.L 4096 64) ≤ 64 := by omega
  clear l1 l2
  generalize 4096 - Sf.frees (tkn c.L 0 4096) = n1 at *
  generalize 64 - Sf.frees (tkn c.L 4096 64) = n2 at *
  have K0 := hid h
  have c2 := h.c2
  have c3 := h.c3
  clear h
  go_enter Tryd.func23, Tryd.ntmps23
  go_wp2_with fail
  go_region_held3 (fun w' => w'.cell? ⟨a, 2, none⟩ = some (.pointer (some ⟨o, 0, none⟩)) ∧ w'.cell? ⟨a, 3, none⟩ = some (.pointer (some ⟨s, 0, none⟩))) (first | exact ⟨by assumption, by assumption⟩ | go_keep) (first | (go_at_call_of 35 o; refine (H1.out _ (K0.out.kept (Fr.refl _ _).drew)).mono ?_; rintro e w2 ⟨rfl, f2⟩; have f2' := (Fr.refl (fun _ => False) w).drew.trans f2; have K2 := hid (K0.out.kept f2'); have F2 := hid f2'; have c22 := K2.out.c2; have c23 := K2.out.c3; clear f2 f2') | (go_at_call_of 35 s; refine (H2.out _ K2.out).mono ?_; rintro e w3 ⟨rfl, f3⟩; have K3 := hid (K2.out.kept f3); have F3 := hid (F2.out.trans f3); have c32 := K3.out.c2; have c33 := K3.out.c3; clear f3))
  go_wp2
  go_ret
  exact ⟨by simp; rw [IntKind.wrap_i64]; omega, F3.out⟩
set_option maxRecDepth 20000 in
theorem k_serial (h : Kt w a o ob s sb c) : Calls Tryd.prog 22 #[.pointer (some ⟨a, 0, none⟩)] w fun e w' => e = .returned (.int .i64 c.nx) ∧ Fr (fun _ => False) w w' := by
  have c1 := h.c1
  clear h
  go_enter Tryd.func22, Tryd.ntmps22
  go_wp2
  go_ret
  exact ⟨by simp, Fr.refl _ _⟩
end
set_option maxRecDepth 20000 in
theorem q_grant_nil (x : Int) (w : World) : Calls Tryd.prog 13 #[.pointer none, .int .i64 x] w fun e w' => e = .returned (.tuple #[.int .u64 0, .int .i64 11]) ∧ Fr (fun _ => False) w w' := by
  go_enter Tryd.func13, Tryd.ntmps13
  go_wp2
  go_ret2
  exact ⟨by simp, Fr.refl _ _⟩
set_option maxRecDepth 20000 in
theorem q_find_nil (b q : Int) (w : World) : Calls Tryd.prog 15 #[.pointer none, .int .u64 b, .int .i64 q] w fun e w' => e = .returned (.tuple #[.int .i64 0, .int .i64 11]) ∧ Fr (fun _ => False) w w' := by
  go_enter Tryd.func15, Tryd.ntmps15
  go_wp2
  go_ret2
  exact ⟨by simp, Fr.refl _ _⟩
set_option maxRecDepth 20000 in
theorem q_restrict_nil (b q : Int) (w : World) : Calls Tryd.prog 17 #[.pointer none, .int .u64 b, .int .i64 q] w fun e w' => e = .returned (.tuple #[.int .u64 0, .int .i64 11]) ∧ Fr (fun _ => False) w w' := by
  go_enter Tryd.func17, Tryd.ntmps17
  go_wp2
  go_ret2
  exact ⟨by simp, Fr.refl _ _⟩
set_option maxRecDepth 20000 in
theorem q_revoke_nil (x : Int) (w : World) : Calls Tryd.prog 19 #[.pointer none, .int .i64 x] w fun e w' => e = .returned (.int .i64 0) ∧ Fr (fun _ => False) w w' := by
  go_enter Tryd.func19, Tryd.ntmps19
  go_wp2
  go_ret
  exact ⟨by simp, Fr.refl _ _⟩
set_option maxRecDepth 20000 in
theorem q_serial_nil (w : World) : Calls Tryd.prog 22 #[.pointer none] w fun e w' => e = .returned (.int .i64 0) ∧ Fr (fun _ => False) w w' := by
  go_enter Tryd.func22, Tryd.ntmps22
  go_wp2
  go_ret
  exact ⟨by simp, Fr.refl _ _⟩
set_option maxRecDepth 20000 in
theorem q_count_nil (w : World) : Calls Tryd.prog 23 #[.pointer none] w fun e w' => e = .returned (.int .i64 0) ∧ Fr (fun _ => False) w w' := by
  go_enter Tryd.func23, Tryd.ntmps23
  go_wp2
  go_ret
  exact ⟨by simp, Fr.refl _ _⟩
set_option maxRecDepth 20000 in
theorem q_copy_nil (w : World) : Calls Tryd.prog 21 #[.pointer none] w fun e w' => e = .returned (.pointer none) ∧ Fr (fun _ => False) w w' := by
  go_enter Tryd.func21, Tryd.ntmps21
  go_wp2
  go_ret
  exact ⟨by simp, Fr.refl _ _⟩
end Go.Proofs.YtcleheapfgapaaaDoor
