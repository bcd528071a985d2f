/-
  What the calls of package page do: Alloc, by its four ways.
-/
import Derived.Test.YtioplfbkfokkfaaGreatDoorChCalls
namespace Go.Proofs.YtioplfbkfokkfaaGreatDoor
open Go.RowKit
open An

def cameN : Value → Nat
  | .bool true => 0
  | _ => 1
section
variable {w0 w : World} {Z0 Z U : Nat → Prop} {a p rd wt sa sb : Nat} {bs : List UInt8} {ss : List Sp} {g : Pg}
set_option maxRecDepth 20000 in
set_option maxHeartbeats 2000000 in
theorem l_alloc_full (ok : g.Ok bs) (h : Pp w0 Z0 w p a rd wt sa sb Z bs ss g) (hf : g.Full) : Calls Tryz.prog 215 #[.pointer (some ⟨p, 0, none⟩)] w fun e w' => e = .returned (.tuple #[.int .i64 0, .int .i64 10]) ∧ Pp w0 Z0 w' p a rd wt sa sb Z bs ss g := by
  have HF := hid (l_full ok h)
  rw [decide_eq_true hf] at HF
  have HP := hid h
  clear h ok hf
  go_enter Tryz.func215, Tryz.ntmps215
  go_wp2
  refine wp_scope_jumps 0 (fun _ _ => False) (fun _ _ => 0) rfl ?_ fun _ _ h => h.elim
  go_wp2_with fail
  refine HF.out.mono ?_
  rintro e w1 ⟨rfl, hw⟩
  obtain rfl := hw.symm
  clear hw
  go_wp2
  rw [jump_ret]
  go_ret2
  exact ⟨by simp, HP.out⟩
set_option maxRecDepth 20000 in
set_option maxHeartbeats 2000000 in
theorem l_alloc_R (ok : g.Ok bs) (h : Pp w0 Z0 w p a rd wt sa sb Z bs ss g) (hk : ss.length < 1000000) {x : Nat} {R : List Nat} (e : g.R = x :: R) : Calls Tryz.prog 215 #[.pointer (some ⟨p, 0, none⟩)] w fun e w' => e = .returned (.tuple #[.int .i64 x, .int .i64 0]) ∧ ∃ Z', Pp w0 Z0 w' p a rd wt sa sb Z' (over bs (g.pos x) (leb 0 8)) (ss ++ [((g.pos x : Int), (8 : Int), false)] ++ [((g.pos x : Int), (8 : Int), true)]) ⟨g.base, g.kind, g.fresh, R, g.D⟩ := by
  have HF := hid (l_full ok h)
  rw [decide_eq_false (not_full_R ok e)] at HF
  have HE : Hid (∀ w1, Pp w0 Z0 w1 p a rd wt sa sb Z bs ss g → Calls Tryz.prog 235 #[.pointer (some ⟨rd, 0, none⟩)] w1 fun e w' => e = .returned (.bool false) ∧ Fr (fun _ => False) w1 w') := fun w1 h1 => (p_empty h1.qr).mono fun e' w' ⟨he, f⟩ => ⟨by rw [he, decide_eq_false]; show lnk g.R ≠ 0; rw [e]; exact Nat.succ_ne_zero _, f⟩
  have HO : Hid (∀ w1, Pp w0 Z0 w1 p a rd wt sa sb Z bs ss g → Calls Tryz.prog 236 #[.pointer (some ⟨p, 0, none⟩)] w1 fun e w' => e = .returned (.tuple #[.int .i64 x, .int .i64 0]) ∧ ∃ Z', Pp w0 Z0 w' p a rd wt sa sb Z' (over bs (g.pos x) (leb 0 8)) (ss ++ [((g.pos x : Int), (8 : Int), false)] ++ [((g.pos x : Int), (8 : Int), true)]) ⟨g.base, g.kind, g.fresh, R, g.D⟩) := fun w1 h1 => l_pop ok h1 hk e
  have HP := hid h
  clear h ok hk e
  go_enter Tryz.func215, Tryz.ntmps215
  go_wp2
  refine wp_scope_back 0 (fun a' w' => ∃ (cm : Bool) (g1 : Pg) (u5 u6 u7 u8 u9 u10 u11 u12 u13 u14 u15 u16 u17 u18 u19 u20 u21 u22 u23 u24 u25 u26 u27 u28 u29 u30 u31 u32 u33 u34 u35 u36 u37 u38 u39 u40 u41 u42 u43 u44 u45 u46 u47 u48 u49 u50 u51 u52 u53 u54 u55 u56 u57 u58 u59 u60 u61 u62 u63 u64 : Value), Hid (Pp w0 Z0 w' p a rd wt sa sb Z bs ss g1) ∧ a' = { tmps := #[.pointer (some ⟨p, 0, none⟩), undef, .int .i64 0, .int .i64 0, .bool cm, u5, u6, u7, u8, u9, u10, u11, u12, u13, u14, u15, u16, u17, u18, u19, u20, u21, u22, u23, u24, u25, u26, u27, u28, u29, u30, u31, u32, u33, u34, u35, u36, u37, u38, u39, u40, u41, u42, u43, u44, u45, u46, u47, u48, u49, u50, u51, u52, u53, u54, u55, u56, u57, u58, u59, u60, u61, u62, u63, u64], defers := [] } ∧ g = g1) (fun a' _ => cameN (a'.tmps.getD 4 undef)) rfl ?pre ?pass
  case pre =>
    intro R hK
    go_wp2_with fail
    refine HF.out.mono ?_
    rintro e w1 ⟨rfl, hw⟩
    obtain rfl := hw.symm
    clear hw
    go_wp2
    go_step3
    rename_i K hKK
    exact hKK _ _ (hK _ _ ⟨false, g, _, _, _, _, _, _, _, _, _, _, _, _, _, _, _, _, _, _, _, _, _, _, _, _, _, _, _, _, _, _, _, _, _, _, _, _, _, _, _, _, _, _, _, _, _, _, _, _, _, _, _, _, _, _, _, _, _, _, _, _, HP, rfl, rfl⟩)
  case pass =>
    rintro a' wr ⟨cm, g1, u5, u6, u7, u8, u9, u10, u11, u12, u13, u14, u15, u16, u17, u18, u19, u20, u21, u22, u23, u24, u25, u26, u27, u28, u29, u30, u31, u32, u33, u34, u35, u36, u37, u38, u39, u40, u41, u42, u43, u44, u45, u46, u47, u48, u49, u50, u51, u52, u53, u54, u55, u56, u57, u58, u59, u60, u61, u62, u63, u64, HQ, rfl, hg⟩
    subst hg
    have c0 := HQ.out.pw.c0
    clear HF HP
    go_wp2_with fail
    refine (HE.out _ HQ.out).mono ?_
    rintro e w2 ⟨rfl, f2⟩
    have HQ2 := hid (HQ.out.kept f2)
    clear f2 HQ HE c0
    go_wp2_with fail
    refine (HO.out _ HQ2.out).mono ?_
    rintro e w3 ⟨rfl, Z3, h3⟩
    have HQ3 := hid h3
    clear h3 HQ2 HO
    go_wp2
    rw [jump_ret]
    go_ret2
    exact ⟨by simp, Z3, HQ3.out⟩
set_option maxRecDepth 20000 in
set_option maxHeartbeats 2000000 in
theorem l_alloc_F (ok : g.Ok bs) (h : Pp w0 Z0 w p a rd wt sa sb Z bs ss g) (hf : ¬ g.Full) (e0 : g.R = []) (e : g.D = []) : Calls Tryz.prog 215 #[.pointer (some ⟨p, 0, none⟩)] w fun e w' => e = .returned (.tuple #[.int .i64 g.fresh, .int .i64 0]) ∧ Pp w0 Z0 w' p a rd wt sa sb Z bs ss ⟨g.base, g.kind, g.fresh + 1, [], []⟩ := by
  have HF := hid (l_full ok h)
  rw [decide_eq_false hf] at HF
  have HE : Hid (∀ w1, Pp w0 Z0 w1 p a rd wt sa sb Z bs ss g → Calls Tryz.prog 235 #[.pointer (some ⟨rd, 0, none⟩)] w1 fun e w' => e = .returned (.bool true) ∧ Fr (fun _ => False) w1 w') := fun w1 h1 => (p_empty h1.qr).mono fun e' w' ⟨he, f⟩ => ⟨by rw [he, decide_eq_true]; show lnk g.R = 0; rw [e0]; rfl, f⟩
  have HE2 : Hid (∀ w1, Pp w0 Z0 w1 p a rd wt sa sb Z bs ss g → Calls Tryz.prog 235 #[.pointer (some ⟨wt, 0, none⟩)] w1 fun e w' => e = .returned (.bool true) ∧ Fr (fun _ => False) w1 w') := fun w1 h1 => (p_empty h1.qw).mono fun e' w' ⟨he, f⟩ => ⟨by rw [he, decide_eq_true]; show lnk g.D = 0; rw [e]; rfl, f⟩
  have HB : Hid (∀ w1, Pp w0 Z0 w1 p a rd wt sa sb Z bs ss g → Calls Tryz.prog 238 #[.pointer (some ⟨p, 0, none⟩)] w1 fun e w' => e = .returned (.tuple #[.int .i64 g.fresh, .int .i64 0]) ∧ Pp w0 Z0 w' p a rd wt sa sb Z bs ss ⟨g.base, g.kind, g.fresh + 1, [], []⟩) := fun w1 h1 => l_begin ok h1 hf e0 e
  have HP := hid h
  clear h ok hf e0 e
  go_enter Tryz.func215, Tryz.ntmps215
  go_wp2
  refine wp_scope_back 0 (fun a' w' => ∃ (cm : Bool) (g1 : Pg) (u5 u6 u7 u8 u9 u10 u11 u12 u13 u14 u15 u16 u17 u18 u19 u20 u21 u22 u23 u24 u25 u26 u27 u28 u29 u30 u31 u32 u33 u34 u35 u36 u37 u38 u39 u40 u41 u42 u43 u44 u45 u46 u47 u48 u49 u50 u51 u52 u53 u54 u55 u56 u57 u58 u59 u60 u61 u62 u63 u64 : Value), Hid (Pp w0 Z0 w' p a rd wt sa sb Z bs ss g1) ∧ a' = { tmps := #[.pointer (some ⟨p, 0, none⟩), undef, .int .i64 0, .int .i64 0, .bool cm, u5, u6, u7, u8, u9, u10, u11, u12, u13, u14, u15, u16, u17, u18, u19, u20, u21, u22, u23, u24, u25, u26, u27, u28, u29, u30, u31, u32, u33, u34, u35, u36, u37, u38, u39, u40, u41, u42, u43, u44, u45, u46, u47, u48, u49, u50, u51, u52, u53, u54, u55, u56, u57, u58, u59, u60, u61, u62, u63, u64], defers := [] } ∧ g = g1) (fun a' _ => cameN (a'.tmps.getD 4 undef)) rfl ?pre ?pass
  case pre =>
    intro R hK
    go_wp2_with fail
    refine HF.out.mono ?_
    rintro e w1 ⟨rfl, hw⟩
    obtain rfl := hw.symm
    clear hw
    go_wp2
    go_step3
    rename_i K hKK
    exact hKK _ _ (hK _ _ ⟨false, g, _, _, _, _, _, _, _, _, _, _, _, _, _, _, _, _, _, _, _, _, _, _, _, _, _, _, _, _, _, _, _, _, _, _, _, _, _, _, _, _, _, _, _, _, _, _, _, _, _, _, _, _, _, _, _, _, _, _, _, _, HP, rfl, rfl⟩)
  case pass =>
    rintro a' wr ⟨cm, g1, u5, u6, u7, u8, u9, u10, u11, u12, u13, u14, u15, u16, u17, u18, u19, u20, u21, u22, u23, u24, u25, u26, u27, u28, u29, u30, u31, u32, u33, u34, u35, u36, u37, u38, u39, u40, u41, u42, u43, u44, u45, u46, u47, u48, u49, u50, u51, u52, u53, u54, u55, u56, u57, u58, u59, u60, u61, u62, u63, u64, HQ, rfl, hg⟩
    subst hg
    have c0 := HQ.out.pw.c0
    clear HF HP
    go_wp2_with fail
    refine (HE.out _ HQ.out).mono ?_
    rintro e w2 ⟨rfl, f2⟩
    have HQ2 := hid (HQ.out.kept f2)
    have d1 := HQ2.out.pw.c1
    clear f2 HQ HE c0
    go_wp2_with fail
    refine (HE2.out _ HQ2.out).mono ?_
    rintro e w3 ⟨rfl, f3⟩
    have HQ3 := hid (HQ2.out.kept f3)
    clear f3 HQ2 HE2 d1
    go_wp2_with fail
    refine (HB.out _ HQ3.out).mono ?_
    rintro e w4 ⟨rfl, h4⟩
    have HQ4 := hid h4
    clear h4 HQ3 HB
    go_wp2
    rw [jump_ret]
    go_ret2
    exact ⟨by simp, HQ4.out⟩
set_option maxRecDepth 20000 in
set_option maxHeartbeats 4000000 in
theorem l_alloc_D (ok : g.Ok bs) (h : Pp w0 Z0 w p a rd wt sa sb Z bs ss g) (hk : ss.length < 1000000) {x : Nat} {D : List Nat} (e0 : g.R = []) (e : g.D = x :: D) : Calls Tryz.prog 215 #[.pointer (some ⟨p, 0, none⟩)] w fun e w' => e = .returned (.tuple #[.int .i64 x, .int .i64 0]) ∧ ∃ Z', Pp w0 Z0 w' p a rd wt sa sb Z' (over bs (g.pos x) (leb 0 8)) (ss ++ [((g.pos x : Int), (8 : Int), false)] ++ [((g.pos x : Int), (8 : Int), true)]) ⟨g.base, g.kind, g.fresh, D, []⟩ := by
  have HF := hid (l_full ok h)
  rw [decide_eq_false (not_full_D ok e)] at HF
  have HE : Hid (∀ w1, Pp w0 Z0 w1 p a rd wt sa sb Z bs ss g → Calls Tryz.prog 235 #[.pointer (some ⟨rd, 0, none⟩)] w1 fun e w' => e = .returned (.bool true) ∧ Fr (fun _ => False) w1 w') := fun w1 h1 => (p_empty h1.qr).mono fun e' w' ⟨he, f⟩ => ⟨by rw [he, decide_eq_true]; show lnk g.R = 0; rw [e0]; rfl, f⟩
  have HE2 : Hid (∀ w1, Pp w0 Z0 w1 p a rd wt sa sb Z bs ss g → Calls Tryz.prog 235 #[.pointer (some ⟨wt, 0, none⟩)] w1 fun e w' => e = .returned (.bool false) ∧ Fr (fun _ => False) w1 w') := fun w1 h1 => (p_empty h1.qw).mono fun e' w' ⟨he, f⟩ => ⟨by rw [he, decide_eq_false]; show lnk g.D ≠ 0; rw [e]; exact Nat.succ_ne_zero _, f⟩
  have HT : Hid (∀ w1, Pp w0 Z0 w1 p a rd wt sa sb Z bs ss g → Calls Tryz.prog 237 #[.pointer (some ⟨rd, 0, none⟩), .pointer (some ⟨wt, 0, none⟩)] w1 fun e w' => e = .returned (.int .i64 0) ∧ Pp w0 Z0 w' p a rd wt sa sb Z bs ss ⟨g.base, g.kind, g.fresh, g.D, []⟩) := fun w1 h1 => by
    refine (p_take_ok h1.qr h1.qw h1.d2.1 (by rw [e0]; rfl)).mono fun e' w' ⟨hE, q1, q2, f⟩ => ⟨hE, ?_⟩
    have h2 := h1.chains q1 q2 f
    have hh : hs ⟨g.base, g.kind, g.fresh, g.D, []⟩ = hs g := by
      unfold hs
      refine List.map_congr_left fun i _ => decide_eq_decide.2 ?_
      show (i < g.fresh ∧ i ∉ g.D ∧ i ∉ ([] : List Nat)) ↔ (i < g.fresh ∧ i ∉ g.R ∧ i ∉ g.D)
      rw [e0]
      exact ⟨fun ⟨a, b, c⟩ => ⟨a, c, b⟩, fun ⟨a, b, c⟩ => ⟨a, c, b⟩⟩
    show Ppr w0 Z0 w' p a rd wt sa sb Z bs ss g.base g.kind g.fresh (hs ⟨g.base, g.kind, g.fresh, g.D, []⟩) (g.ck (lnk g.D)) (g.ck 0)
    rw [hh]
    exact h2
  have HE3 : Hid (∀ w1, Pp w0 Z0 w1 p a rd wt sa sb Z bs ss ⟨g.base, g.kind, g.fresh, g.D, []⟩ → Calls Tryz.prog 235 #[.pointer (some ⟨rd, 0, none⟩)] w1 fun e w' => e = .returned (.bool false) ∧ Fr (fun _ => False) w1 w') := fun w1 h1 => (p_empty h1.qr).mono fun e' w' ⟨he, f⟩ => ⟨by rw [he, decide_eq_false]; show lnk g.D ≠ 0; rw [e]; exact Nat.succ_ne_zero _, f⟩
  have HO : Hid (∀ w1, Pp w0 Z0 w1 p a rd wt sa sb Z bs ss ⟨g.base, g.kind, g.fresh, g.D, []⟩ → Calls Tryz.prog 236 #[.pointer (some ⟨p, 0, none⟩)] w1 fun e w' => e = .returned (.tuple #[.int .i64 x, .int .i64 0]) ∧ ∃ Z', Pp w0 Z0 w' p a rd wt sa sb Z' (over bs (g.pos x) (leb 0 8)) (ss ++ [((g.pos x : Int), (8 : Int), false)] ++ [((g.pos x : Int), (8 : Int), true)]) ⟨g.base, g.kind, g.fresh, D, []⟩) := fun w1 h1 => l_pop (ok.turn e0) h1 hk e
  have HP := hid h
  clear h ok hk e0 e
  go_enter Tryz.func215, Tryz.ntmps215
  go_wp2
  refine wp_scope_back 0 (fun a' w' => ∃ (cm : Bool) (g1 : Pg) (u5 u6 u7 u8 u9 u10 u11 u12 u13 u14 u15 u16 u17 u18 u19 u20 u21 u22 u23 u24 u25 u26 u27 u28 u29 u30 u31 u32 u33 u34 u35 u36 u37 u38 u39 u40 u41 u42 u43 u44 u45 u46 u47 u48 u49 u50 u51 u52 u53 u54 u55 u56 u57 u58 u59 u60 u61 u62 u63 u64 : Value), Hid (Pp w0 Z0 w' p a rd wt sa sb Z bs ss g1) ∧ a' = { tmps := #[.pointer (some ⟨p, 0, none⟩), undef, .int .i64 0, .int .i64 0, .bool cm, u5, u6, u7, u8, u9, u10, u11, u12, u13, u14, u15, u16, u17, u18, u19, u20, u21, u22, u23, u24, u25, u26, u27, u28, u29, u30, u31, u32, u33, u34, u35, u36, u37, u38, u39, u40, u41, u42, u43, u44, u45, u46, u47, u48, u49, u50, u51, u52, u53, u54, u55, u56, u57, u58, u59, u60, u61, u62, u63, u64], defers := [] } ∧ ((cm = false ∧ g1 = g) ∨ (cm = true ∧ g1 = ⟨g.base, g.kind, g.fresh, g.D, []⟩))) (fun a' _ => cameN (a'.tmps.getD 4 undef)) rfl ?pre ?pass
  case pre =>
    intro R hK
    go_wp2_with fail
    refine HF.out.mono ?_
    rintro e w1 ⟨rfl, hw⟩
    obtain rfl := hw.symm
    clear hw
    go_wp2
    go_step3
    rename_i K hKK
    exact hKK _ _ (hK _ _ ⟨false, g, _, _, _, _, _, _, _, _, _, _, _, _, _, _, _, _, _, _, _, _, _, _, _, _, _, _, _, _, _, _, _, _, _, _, _, _, _, _, _, _, _, _, _, _, _, _, _, _, _, _, _, _, _, _, _, _, _, _, _, _, HP, rfl, .inl ⟨rfl, rfl⟩⟩)
  case pass =>
    rintro a' wr ⟨cm, g1, u5, u6, u7, u8, u9, u10, u11, u12, u13, u14, u15, u16, u17, u18, u19, u20, u21, u22, u23, u24, u25, u26, u27, u28, u29, u30, u31, u32, u33, u34, u35, u36, u37, u38, u39, u40, u41, u42, u43, u44, u45, u46, u47, u48, u49, u50, u51, u52, u53, u54, u55, u56, u57, u58, u59, u60, u61, u62, u63, u64, HQ, rfl, hg⟩
    clear HF HP
    rcases hg with ⟨rfl, rfl⟩ | ⟨rfl, rfl⟩
    · have c0 := HQ.out.pw.c0
      go_wp2_with fail
      refine (HE.out _ HQ.out).mono ?_
      rintro e w2 ⟨rfl, f2⟩
      have HQ2 := hid (HQ.out.kept f2)
      have d1 := HQ2.out.pw.c1
      clear f2 HQ HE c0
      go_wp2_with fail
      refine (HE2.out _ HQ2.out).mono ?_
      rintro e w3 ⟨rfl, f3⟩
      have HQ3 := hid (HQ2.out.kept f3)
      have e0 := HQ3.out.pw.c0
      have e1 := HQ3.out.pw.c1
      clear f3 HQ2 HE2 d1
      go_wp2_with fail
      go_region_held3 (fun w' => w'.cell? ⟨p, 0, none⟩ = some (.pointer (some ⟨rd, 0, none⟩)) ∧ w'.cell? ⟨p, 1, none⟩ = some (.pointer (some ⟨wt, 0, none⟩))) (first | exact ⟨by assumption, by assumption⟩ | go_keep) (first | (go_at_call 237; refine (HT.out _ (HQ3.out.kept (Fr.refl _ _).drew)).mono ?_; rintro e w4 ⟨rfl, h4⟩; have HQ4 := hid h4; have f0 := HQ4.out.pw.c0; have f1 := HQ4.out.pw.c1; clear h4))
      clear HQ3 HT e0 e1 f0 f1
      go_wp2
      go_step3
      exact ⟨rfl, ⟨true, _, _, _, _, _, _, _, _, _, _, _, _, _, _, _, _, _, _, _, _, _, _, _, _, _, _, _, _, _, _, _, _, _, _, _, _, _, _, _, _, _, _, _, _, _, _, _, _, _, _, _, _, _, _, _, _, _, _, _, _, _, HQ4, rfl, .inr ⟨rfl, rfl⟩⟩, by simp [cameN]⟩
    · have c0 := HQ.out.pw.c0
      go_wp2_with fail
      refine (HE3.out _ HQ.out).mono ?_
      rintro e w2 ⟨rfl, f2⟩
      have HQ2 := hid (HQ.out.kept f2)
      clear f2 HQ HE3 c0
      go_wp2_with fail
      refine (HO.out _ HQ2.out).mono ?_
      rintro e w3 ⟨rfl, Z3, h3⟩
      have HQ3 := hid h3
      clear h3 HQ2 HO
      go_wp2
      rw [jump_ret]
      go_ret2
      exact ⟨by simp, Z3, HQ3.out⟩
theorem l_alloc (ok : g.Ok bs) (h : Pp w0 Z0 w p a rd wt sa sb Z bs ss g) (hk : ss.length < 1000000) : Calls Tryz.prog 215 #[.pointer (some ⟨p, 0, none⟩)] w fun e w' => e = .returned (.tuple #[.int .i64 (paV g), .int .i64 (paE g)]) ∧ ∃ Z', Pp w0 Z0 w' p a rd wt sa sb Z' (paB g bs) (paT g ss) (paS g) := by
  by_cases hf : g.Full
  · obtain ⟨e1, e2, e3, e4⟩ := pa_full (bs := bs) hf
    have e5 : paT g ss = ss := if_pos (.inl hf)
    rw [e1, e2, e3, e4, e5]
    exact (l_alloc_full ok h hf).mono fun e w' ⟨he, k⟩ => ⟨he, Z, k⟩
  · cases hR : g.R with
    | cons x R =>
      obtain ⟨e1, e2, e3, e4, e5⟩ := pa_R (bs := bs) hf hR
      rw [e1, e2, e3, e4, e5]
      exact l_alloc_R ok h hk hR
    | nil =>
      cases hD : g.D with
      | cons x D =>
        obtain ⟨e1, e2, e3, e4, e5⟩ := pa_D (bs := bs) hf hR hD
        rw [e1, e2, e3, e4, e5]
        exact l_alloc_D ok h hk hR hD
      | nil =>
        obtain ⟨e1, e2, e3, e4, e5⟩ := pa_F (bs := bs) hf hR hD
        rw [e1, e2, e3, e4, e5]
        exact (l_alloc_F ok h hf hR hD).mono fun e w' ⟨he, k⟩ => ⟨he, Z, k⟩
end
end Go.Proofs.YtioplfbkfokkfaaGreatDoor
