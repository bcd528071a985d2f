/-
  What the calls of package page do: Alloc, by its four ways.
  What the calls of package page do: Free, Move, New; and all of them as of one thing, the page and its arena.
-/
import Derived.Test.YtndhbnhobhkmaaaGreatDoorChCalls
namespace Go.Proofs.YtndhbnhobhkmaaaGreatDoor
open Go.RowKit
open An

def cameN : Value → Nat
  | .bool true => 0
  | _ => 1
section
variable {w0 w : World} {Z0 Z U : Nat → Prop} {a p rd wt sa sb : Nat} {bs : List UInt8} {ss : List Sp} {g : Pg}
set_option maxRecDepth 20000 in
set_option maxHeartbeats 2000000 in
theorem l_alloc_full (ok : g.Ok bs) (h : Pp w0 Z0 w p a rd wt sa sb Z bs ss g) (hf : g.Full) : Calls Tryz.prog 222 #[.pointer (some ⟨p, 0, none⟩)] w fun e w' => e = .returned (.tuple #[.int .i64 0, .int .i64 10]) ∧ Pp w0 Z0 w' p a rd wt sa sb Z bs ss g := by
  have HF := hid (l_full ok h)
  rw [decide_eq_true hf] at HF
  have HP := hid h
  clear h ok hf
  go_enter Tryz.func222, Tryz.ntmps222
  go_wp2
  refine wp_scope_jumps 0 (fun _ _ => False) (fun _ _ => 0) rfl ?_ fun _ _ h => h.elim
  go_wp2_with fail
  refine HF.out.mono ?_
  rintro e w1 ⟨rfl, hw⟩
  obtain rfl := hw.symm
  clear hw
  go_wp2
  rw [jump_ret]
  go_ret2
  exact ⟨by simp, HP.out⟩
set_option maxRecDepth 20000 in
set_option maxHeartbeats 2000000 in
theorem l_alloc_R (ok : g.Ok bs) (h : Pp w0 Z0 w p a rd wt sa sb Z bs ss g) (hk : ss.length < 1000000) {x : Nat} {R : List Nat} (e : g.R = x :: R) : Calls Tryz.prog 222 #[.pointer (some ⟨p, 0, none⟩)] w fun e w' => e = .returned (.tuple #[.int .i64 x, .int .i64 0]) ∧ ∃ Z', Pp w0 Z0 w' p a rd wt sa sb Z' (over bs (g.pos x) (leb 0 8)) (ss ++ [((g.pos x : Int), (8 : Int), false)] ++ [((g.pos x : Int), (8 : Int), true)]) ⟨g.base, g.kind, g.fresh, R, g.D⟩ := by
  have HF := hid (l_full ok h)
  rw [decide_eq_false (not_full_R ok e)] at HF
  have HE : Hid (∀ w1, Pp w0 Z0 w1 p a rd wt sa sb Z bs ss g → Calls Tryz.prog 239 #[.pointer (some ⟨rd, 0, none⟩)] w1 fun e w' => e = .returned (.bool false) ∧ Fr (fun _ => False) w1 w') := fun w1 h1 => (p_empty h1.qr).mono fun e' w' ⟨he, f⟩ => ⟨by rw [he, decide_eq_false]; show lnk g.R ≠ 0; rw [e]; exact Nat.succ_ne_zero _, f⟩
  have HO : Hid (∀ w1, Pp w0 Z0 w1 p a rd wt sa sb Z bs ss g → Calls Tryz.prog 240 #[.pointer (some ⟨p, 0, none⟩)] w1 fun e w' => e = .returned (.tuple #[.int .i64 x, .int .i64 0]) ∧ ∃ Z', Pp w0 Z0 w' p a rd wt sa sb Z' (over bs (g.pos x) (leb 0 8)) (ss ++ [((g.pos x : Int), (8 : Int), false)] ++ [((g.pos x : Int), (8 : Int), true)]) ⟨g.base, g.kind, g.fresh, R, g.D⟩) := fun w1 h1 => l_pop ok h1 hk e
  have HP := hid h
  clear h ok hk e
  go_enter Tryz.func222, Tryz.ntmps222
  go_wp2
  refine wp_scope_back 0 (fun a' w' => ∃ (cm : Bool) (g1 : Pg) (u5 u6 u7 u8 u9 u10 u11 u12 u13 u14 u15 u16 u17 u18 u19 u20 u21 u22 u23 u24 u25 u26 u27 u28 u29 u30 u31 u32 u33 u34 u35 u36 u37 u38 u39 u40 u41 u42 u43 u44 u45 u46 u47 u48 u49 u50 u51 u52 u53 u54 u55 u56 u57 u58 u59 u60 u61 u62 u63 u64 : Value), Hid (Pp w0 Z0 w' p a rd wt sa sb Z bs ss g1) ∧ a' = { tmps := #[.pointer (some ⟨p, 0, none⟩), undef, .int .i64 0, .int .i64 0, .bool cm, u5, u6, u7, u8, u9, u10, u11, u12, u13, u14, u15, u16, u17, u18, u19, u20, u21, u22, u23, u24, u25, u26, u27, u28, u29, u30, u31, u32, u33, u34, u35, u36, u37, u38, u39, u40, u41, u42, u43, u44, u45, u46, u47, u48, u49, u50, u51, u52, u53, u54, u55, u56, u57, u58, u59, u60, u61, u62, u63, u64], defers := [] } ∧ g = g1) (fun a' _ => cameN (a'.tmps.getD 4 undef)) rfl ?pre ?pass
  case pre =>
    intro R hK
    go_wp2_with fail
    refine HF.out.mono ?_
    rintro e w1 ⟨rfl, hw⟩
    obtain rfl := hw.symm
    clear hw
    go_wp2
    go_step3
    rename_i K hKK
    exact hKK _ _ (hK _ _ ⟨false, g, _, _, _, _, _, _, _, _, _, _, _, _, _, _, _, _, _, _, _, _, _, _, _, _, _, _, _, _, _, _, _, _, _, _, _, _, _, _, _, _, _, _, _, _, _, _, _, _, _, _, _, _, _, _, _, _, _, _, _, _, HP, rfl, rfl⟩)
  case pass =>
    rintro a' wr ⟨cm, g1, u5, u6, u7, u8, u9, u10, u11, u12, u13, u14, u15, u16, u17, u18, u19, u20, u21, u22, u23, u24, u25, u26, u27, u28, u29, u30, u31, u32, u33, u34, u35, u36, u37, u38, u39, u40, u41, u42, u43, u44, u45, u46, u47, u48, u49, u50, u51, u52, u53, u54, u55, u56, u57, u58, u59, u60, u61, u62, u63, u64, HQ, rfl, hg⟩
    subst hg
    have c0 := HQ.out.pw.c0
    clear HF HP
    go_wp2_with fail
    refine (HE.out _ HQ.out).mono ?_
    rintro e w2 ⟨rfl, f2⟩
    have HQ2 := hid (HQ.out.kept f2)
    clear f2 HQ HE c0
    go_wp2_with fail
    refine (HO.out _ HQ2.out).mono ?_
    rintro e w3 ⟨rfl, Z3, h3⟩
    have HQ3 := hid h3
    clear h3 HQ2 HO
    go_wp2
    rw [jump_ret]
    go_ret2
    exact ⟨by simp, Z3, HQ3.out⟩
set_option maxRecDepth 20000 in
set_option maxHeartbeats 2000000 in
theorem l_alloc_F (ok : g.Ok bs) (h : Pp w0 Z0 w p a rd wt sa sb Z bs ss g) (hf : ¬ g.Full) (e0 : g.R = []) (e : g.D = []) : Calls Tryz.prog 222 #[.pointer (some ⟨p, 0, none⟩)] w fun e w' => e = .returned (.tuple #[.int .i64 g.fresh, .int .i64 0]) ∧ Pp w0 Z0 w' p a rd wt sa sb Z bs ss ⟨g.base, g.kind, g.fresh + 1, [], []⟩ := by
  have HF := hid (l_full ok h)
  rw [decide_eq_false hf] at HF
  have HE : Hid (∀ w1, Pp w0 Z0 w1 p a rd wt sa sb Z bs ss g → Calls Tryz.prog 239 #[.pointer (some ⟨rd, 0, none⟩)] w1 fun e w' => e = .returned (.bool true) ∧ Fr (fun _ => False) w1 w') := fun w1 h1 => (p_empty h1.qr).mono fun e' w' ⟨he, f⟩ => ⟨by rw [he, decide_eq_true]; show lnk g.R = 0; rw [e0]; rfl, f⟩
  have HE2 : Hid (∀ w1, Pp w0 Z0 w1 p a rd wt sa sb Z bs ss g → Calls Tryz.prog 239 #[.pointer (some ⟨wt, 0, none⟩)] w1 fun e w' => e = .returned (.bool true) ∧ Fr (fun _ => False) w1 w') := fun w1 h1 => (p_empty h1.qw).mono fun e' w' ⟨he, f⟩ => ⟨by rw [he, decide_eq_true]; show lnk g.D = 0; rw [e]; rfl, f⟩
  have HB : Hid (∀ w1, Pp w0 Z0 w1 p a rd wt sa sb Z bs ss g → Calls Tryz.prog 242 #[.pointer (some ⟨p, 0, none⟩)] w1 fun e w' => e = .returned (.tuple #[.int .i64 g.fresh, .int .i64 0]) ∧ Pp w0 Z0 w' p a rd wt sa sb Z bs ss ⟨g.base, g.kind, g.fresh + 1, [], []⟩) := fun w1 h1 => l_begin ok h1 hf e0 e
  have HP := hid h
  clear h ok hf e0 e
  go_enter Tryz.func222, Tryz.ntmps222
  go_wp2
  refine wp_scope_back 0 (fun a' w' => ∃ (cm : Bool) (g1 : Pg) (u5 u6 u7 u8 u9 u10 u11 u12 u13 u14 u15 u16 u17 u18 u19 u20 u21 u22 u23 u24 u25 u26 u27 u28 u29 u30 u31 u32 u33 u34 u35 u36 u37 u38 u39 u40 u41 u42 u43 u44 u45 u46 u47 u48 u49 u50 u51 u52 u53 u54 u55 u56 u57 u58 u59 u60 u61 u62 u63 u64 : Value), Hid (Pp w0 Z0 w' p a rd wt sa sb Z bs ss g1) ∧ a' = { tmps := #[.pointer (some ⟨p, 0, none⟩), undef, .int .i64 0, .int .i64 0, .bool cm, u5, u6, u7, u8, u9, u10, u11, u12, u13, u14, u15, u16, u17, u18, u19, u20, u21, u22, u23, u24, u25, u26, u27, u28, u29, u30, u31, u32, u33, u34, u35, u36, u37, u38, u39, u40, u41, u42, u43, u44, u45, u46, u47, u48, u49, u50, u51, u52, u53, u54, u55, u56, u57, u58, u59, u60, u61, u62, u63, u64], defers := [] } ∧ g = g1) (fun a' _ => cameN (a'.tmps.getD 4 undef)) rfl ?pre ?pass
  case pre =>
    intro R hK
    go_wp2_with fail
    refine HF.out.mono ?_
    rintro e w1 ⟨rfl, hw⟩
    obtain rfl := hw.symm
    clear hw
    go_wp2
    go_step3
    rename_i K hKK
    exact hKK _ _ (hK _ _ ⟨false, g, _, _, _, _, _, _, _, _, _, _, _, _, _, _, _, _, _, _, _, _, _, _, _, _, _, _, _, _, _, _, _, _, _, _, _, _, _, _, _, _, _, _, _, _, _, _, _, _, _, _, _, _, _, _, _, _, _, _, _, _, HP, rfl, rfl⟩)
  case pass =>
    rintro a' wr ⟨cm, g1, u5, u6, u7, u8, u9, u10, u11, u12, u13, u14, u15, u16, u17, u18, u19, u20, u21, u22, u23, u24, u25, u26, u27, u28, u29, u30, u31, u32, u33, u34, u35, u36, u37, u38, u39, u40, u41, u42, u43, u44, u45, u46, u47, u48, u49, u50, u51, u52, u53, u54, u55, u56, u57, u58, u59, u60, u61, u62, u63, u64, HQ, rfl, hg⟩
    subst hg
    have c0 := HQ.out.pw.c0
    clear HF HP
    go_wp2_with fail
    refine (HE.out _ HQ.out).mono ?_
    rintro e w2 ⟨rfl, f2⟩
    have HQ2 := hid (HQ.out.kept f2)
    have d1 := HQ2.out.pw.c1
    clear f2 HQ HE c0
    go_wp2_with fail
    refine (HE2.out _ HQ2.out).mono ?_
    rintro e w3 ⟨rfl, f3⟩
    have HQ3 := hid (HQ2.out.kept f3)
    clear f3 HQ2 HE2 d1
    go_wp2_with fail
    refine (HB.out _ HQ3.out).mono ?_
    rintro e w4 ⟨rfl, h4⟩
    have HQ4 := hid h4
    clear h4 HQ3 HB
    go_wp2
    rw [jump_ret]
    go_ret2
    exact ⟨by simp, HQ4.out⟩
set_option maxRecDepth 20000 in
set_option maxHeartbeats 4000000 in
theorem l_alloc_D (ok : g.Ok bs) (h : Pp w0 Z0 w p a rd wt sa sb Z bs ss g) (hk : ss.length < 1000000) {x : Nat} {D : List Nat} (e0 : g.R = []) (e : g.D = x :: D) : Calls Tryz.prog 222 #[.pointer (some ⟨p, 0, none⟩)] w fun e w' => e = .returned (.tuple #[.int .i64 x, .int .i64 0]) ∧ ∃ Z', Pp w0 Z0 w' p a rd wt sa sb Z' (over bs (g.pos x) (leb 0 8)) (ss ++ [((g.pos x : Int), (8 : Int), false)] ++ [((g.pos x : Int), (8 : Int), true)]) ⟨g.base, g.kind, g.fresh, D, []⟩ := by
  have HF := hid (l_full ok h)
  rw [decide_eq_false (not_full_D ok e)] at HF
  have HE : Hid (∀ w1, Pp w0 Z0 w1 p a rd wt sa sb Z bs ss g → Calls Tryz.prog 239 #[.pointer (some ⟨rd, 0, none⟩)] w1 fun e w' => e = .returned (.bool true) ∧ Fr (fun _ => False) w1 w') := fun w1 h1 => (p_empty h1.qr).mono fun e' w' ⟨he, f⟩ => ⟨by rw [he, decide_eq_true]; show lnk g.R = 0; rw [e0]; rfl, f⟩
  have HE2 : Hid (∀ w1, Pp w0 Z0 w1 p a rd wt sa sb Z bs ss g → Calls Tryz.prog 239 #[.pointer (some ⟨wt, 0, none⟩)] w1 fun e w' => e = .returned (.bool false) ∧ Fr (fun _ => False) w1 w') := fun w1 h1 => (p_empty h1.qw).mono fun e' w' ⟨he, f⟩ => ⟨by rw [he, decide_eq_false]; show lnk g.D ≠ 0; rw [e]; exact Nat.succ_ne_zero _, f⟩
  have HT : Hid (∀ w1, Pp w0 Z0 w1 p a rd wt sa sb Z bs ss g → Calls Tryz.prog 241 #[.pointer (some ⟨rd, 0, none⟩), .pointer (some ⟨wt, 0, none⟩)] w1 fun e w' => e = .returned (.int .i64 0) ∧ Pp w0 Z0 w' p a rd wt sa sb Z bs ss ⟨g.base, g.kind, g.fresh, g.D, []⟩) := fun w1 h1 => by
    refine (p_take_ok h1.qr h1.qw h1.d2.1 (by rw [e0]; rfl)).mono fun e' w' ⟨hE, q1, q2, f⟩ => ⟨hE, ?_⟩
    have h2 := h1.chains q1 q2 f
    have hh : hs ⟨g.base, g.kind, g.fresh, g.D, []⟩ = hs g := by
      unfold hs
      refine List.map_congr_left fun i _ => decide_eq_decide.2 ?_
      show (i < g.fresh ∧ i ∉ g.D ∧ i ∉ ([] : List Nat)) ↔ (i < g.fresh ∧ i ∉ g.R ∧ i ∉ g.D)
      rw [e0]
      exact ⟨fun ⟨a, b, c⟩ => ⟨a, c, b⟩, fun ⟨a, b, c⟩ => ⟨a, c, b⟩⟩
    show Ppr w0 Z0 w' p a rd wt sa sb Z bs ss g.base g.kind g.fresh (hs ⟨g.base, g.kind, g.fresh, g.D, []⟩) (g.ck (lnk g.D)) (g.ck 0)
    rw [hh]
    exact h2
  have HE3 : Hid (∀ w1, Pp w0 Z0 w1 p a rd wt sa sb Z bs ss ⟨g.base, g.kind, g.fresh, g.D, []⟩ → Calls Tryz.prog 239 #[.pointer (some ⟨rd, 0, none⟩)] w1 fun e w' => e = .returned (.bool false) ∧ Fr (fun _ => False) w1 w') := fun w1 h1 => (p_empty h1.qr).mono fun e' w' ⟨he, f⟩ => ⟨by rw [he, decide_eq_false]; show lnk g.D ≠ 0; rw [e]; exact Nat.succ_ne_zero _, f⟩
  have HO : Hid (∀ w1, Pp w0 Z0 w1 p a rd wt sa sb Z bs ss ⟨g.base, g.kind, g.fresh, g.D, []⟩ → Calls Tryz.prog 240 #[.pointer (some ⟨p, 0, none⟩)] w1 fun e w' => e = .returned (.tuple #[.int .i64 x, .int .i64 0]) ∧ ∃ Z', Pp w0 Z0 w' p a rd wt sa sb Z' (over bs (g.pos x) (leb 0 8)) (ss ++ [((g.pos x : Int), (8 : Int), false)] ++ [((g.pos x : Int), (8 : Int), true)]) ⟨g.base, g.kind, g.fresh, D, []⟩) := fun w1 h1 => l_pop (ok.turn e0) h1 hk e
  have HP := hid h
  clear h ok hk e0 e
  go_enter Tryz.func222, Tryz.ntmps222
  go_wp2
  refine wp_scope_back 0 (fun a' w' => ∃ (cm : Bool) (g1 : Pg) (u5 u6 u7 u8 u9 u10 u11 u12 u13 u14 u15 u16 u17 u18 u19 u20 u21 u22 u23 u24 u25 u26 u27 u28 u29 u30 u31 u32 u33 u34 u35 u36 u37 u38 u39 u40 u41 u42 u43 u44 u45 u46 u47 u48 u49 u50 u51 u52 u53 u54 u55 u56 u57 u58 u59 u60 u61 u62 u63 u64 : Value), Hid (Pp w0 Z0 w' p a rd wt sa sb Z bs ss g1) ∧ a' = { tmps := #[.pointer (some ⟨p, 0, none⟩), undef, .int .i64 0, .int .i64 0, .bool cm, u5, u6, u7, u8, u9, u10, u11, u12, u13, u14, u15, u16, u17, u18, u19, u20, u21, u22, u23, u24, u25, u26, u27, u28, u29, u30, u31, u32, u33, u34, u35, u36, u37, u38, u39, u40, u41, u42, u43, u44, u45, u46, u47, u48, u49, u50, u51, u52, u53, u54, u55, u56, u57, u58, u59, u60, u61, u62, u63, u64], defers := [] } ∧ ((cm = false ∧ g1 = g) ∨ (cm = true ∧ g1 = ⟨g.base, g.kind, g.fresh, g.D, []⟩))) (fun a' _ => cameN (a'.tmps.getD 4 undef)) rfl ?pre ?pass
  case pre =>
    intro R hK
    go_wp2_with fail
    refine HF.out.mono ?_
    rintro e w1 ⟨rfl, hw⟩
    obtain rfl := hw.symm
    clear hw
    go_wp2
    go_step3
    rename_i K hKK
    exact hKK _ _ (hK _ _ ⟨false, g, _, _, _, _, _, _, _, _, _, _, _, _, _, _, _, _, _, _, _, _, _, _, _, _, _, _, _, _, _, _, _, _, _, _, _, _, _, _, _, _, _, _, _, _, _, _, _, _, _, _, _, _, _, _, _, _, _, _, _, _, HP, rfl, .inl ⟨rfl, rfl⟩⟩)
  case pass =>
    rintro a' wr ⟨cm, g1, u5, u6, u7, u8, u9, u10, u11, u12, u13, u14, u15, u16, u17, u18, u19, u20, u21, u22, u23, u24, u25, u26, u27, u28, u29, u30, u31, u32, u33, u34, u35, u36, u37, u38, u39, u40, u41, u42, u43, u44, u45, u46, u47, u48, u49, u50, u51, u52, u53, u54, u55, u56, u57, u58, u59, u60, u61, u62, u63, u64, HQ, rfl, hg⟩
    clear HF HP
    rcases hg with ⟨rfl, rfl⟩ | ⟨rfl, rfl⟩
    · have c0 := HQ.out.pw.c0
      go_wp2_with fail
      refine (HE.out _ HQ.out).mono ?_
      rintro e w2 ⟨rfl, f2⟩
      have HQ2 := hid (HQ.out.kept f2)
      have d1 := HQ2.out.pw.c1
      clear f2 HQ HE c0
      go_wp2_with fail
      refine (HE2.out _ HQ2.out).mono ?_
      rintro e w3 ⟨rfl, f3⟩
      have HQ3 := hid (HQ2.out.kept f3)
      have e0 := HQ3.out.pw.c0
      have e1 := HQ3.out.pw.c1
      clear f3 HQ2 HE2 d1
      go_wp2_with fail
      go_region_held3 (fun w' => w'.cell? ⟨p, 0, none⟩ = some (.pointer (some ⟨rd, 0, none⟩)) ∧ w'.cell? ⟨p, 1, none⟩ = some (.pointer (some ⟨wt, 0, none⟩))) (first | exact ⟨by assumption, by assumption⟩ | go_keep) (first | (go_at_call 241; refine (HT.out _ (HQ3.out.kept (Fr.refl _ _).drew)).mono ?_; rintro e w4 ⟨rfl, h4⟩; have HQ4 := hid h4; have f0 := HQ4.out.pw.c0; have f1 := HQ4.out.pw.c1; clear h4))
      clear HQ3 HT e0 e1 f0 f1
      go_wp2
      go_step3
      exact ⟨rfl, ⟨true, _, _, _, _, _, _, _, _, _, _, _, _, _, _, _, _, _, _, _, _, _, _, _, _, _, _, _, _, _, _, _, _, _, _, _, _, _, _, _, _, _, _, _, _, _, _, _, _, _, _, _, _, _, _, _, _, _, _, _, _, _, HQ4, rfl, .inr ⟨rfl, rfl⟩⟩, by simp [cameN]⟩
    · have c0 := HQ.out.pw.c0
      go_wp2_with fail
      refine (HE3.out _ HQ.out).mono ?_
      rintro e w2 ⟨rfl, f2⟩
      have HQ2 := hid (HQ.out.kept f2)
      clear f2 HQ HE3 c0
      go_wp2_with fail
      refine (HO.out _ HQ2.out).mono ?_
      rintro e w3 ⟨rfl, Z3, h3⟩
      have HQ3 := hid h3
      clear h3 HQ2 HO
      go_wp2
      rw [jump_ret]
      go_ret2
      exact ⟨by simp, Z3, HQ3.out⟩
theorem l_alloc (ok : g.Ok bs) (h : Pp w0 Z0 w p a rd wt sa sb Z bs ss g) (hk : ss.length < 1000000) : Calls Tryz.prog 222 #[.pointer (some ⟨p, 0, none⟩)] w fun e w' => e = .returned (.tuple #[.int .i64 (paV g), .int .i64 (paE g)]) ∧ ∃ Z', Pp w0 Z0 w' p a rd wt sa sb Z' (paB g bs) (paT g ss) (paS g) := by
  by_cases hf : g.Full
  · obtain ⟨e1, e2, e3, e4⟩ := pa_full (bs := bs) hf
    have e5 : paT g ss = ss := if_pos (.inl hf)
    rw [e1, e2, e3, e4, e5]
    exact (l_alloc_full ok h hf).mono fun e w' ⟨he, k⟩ => ⟨he, Z, k⟩
  · cases hR : g.R with
    | cons x R =>
      obtain ⟨e1, e2, e3, e4, e5⟩ := pa_R (bs := bs) hf hR
      rw [e1, e2, e3, e4, e5]
      exact l_alloc_R ok h hk hR
    | nil =>
      cases hD : g.D with
      | cons x D =>
        obtain ⟨e1, e2, e3, e4, e5⟩ := pa_D (bs := bs) hf hR hD
        rw [e1, e2, e3, e4, e5]
        exact l_alloc_D ok h hk hR hD
      | nil =>
        obtain ⟨e1, e2, e3, e4, e5⟩ := pa_F (bs := bs) hf hR hD
        rw [e1, e2, e3, e4, e5]
        exact (l_alloc_F ok h hf hR hD).mono fun e w' ⟨he, k⟩ => ⟨he, Z, k⟩
end
end Go.Proofs.YtndhbnhobhkmaaaGreatDoor

namespace Go.Proofs.YtndhbnhobhkmaaaGreatDoor
open Go.RowKit
open An

section
variable {w0 w : World} {Z0 Z U : Nat → Prop} {a p rd wt sa sb : Nat} {bs : List UInt8} {ss : List Sp} {g : Pg}
theorem punit_at (ok : g.Ok bs) {W : World} (ht : Tab W) : Hid (∀ w1, Fr (fun _ => False) W w1 → Calls Tryz.prog 82 #[.int .i64 g.kind] w1 fun e w' => e = .returned (.int .i64 (pu g.kind)) ∧ Fr (fun _ => False) w1 w') := fun w1 f => (k_unit g.kind (K.start (ht.carry f id))).mono fun e w' ⟨he, k⟩ => ⟨by rw [he, (kind_facts g.kind ok.kind).2.2.2.1], k.fr⟩
set_option maxRecDepth 20000 in
set_option maxHeartbeats 2000000 in
theorem l_free_no (h : Pp w0 Z0 w p a rd wt sa sb Z bs ss g) (k : Int) (hm : ¬ g.May k) : Calls Tryz.prog 183 #[.pointer (some ⟨p, 0, none⟩), .int .i64 k] w fun e w' => e = .returned (.int .i64 (pfE g k)) ∧ Fr (fun _ => False) w w' := by
  have H1 := hid (Sf.s_size h.sh)
  rw [hs_length] at H1
  have H2 := hid (Sf.s_taken h.sh k)
  rw [hs_isT, decide_eq_false hm] at H2
  have c6 := h.pw.c6
  clear h
  by_cases h0 : 0 ≤ k
  case neg =>
    have he : Hid (pfE g k = 12) := if_neg fun m => h0 m.1
    generalize pfE g k = v at *
    clear hm
    go_enter Tryz.func183, Tryz.ntmps183
    go_wp2
    go_ret
    exact ⟨by rw [he.out]; simp, Fr.refl _ _⟩
  by_cases h1 : k < pp g.kind
  case neg =>
    have he : Hid (pfE g k = 12) := if_neg fun m => h1 m.2
    generalize pfE g k = v at *
    have h1' : (pp g.kind : Int) ≤ k := by omega
    clear hm
    go_enter Tryz.func183, Tryz.ntmps183
    go_wp2_with fail
    refine H1.out.mono ?_
    rintro e w1 ⟨rfl, hw⟩
    obtain rfl := hw.symm
    clear hw
    go_wp2
    go_ret
    exact ⟨by rw [he.out]; simp, Fr.refl _ _⟩
  have he : Hid (pfE g k = 13) := (if_pos (show g.Block k from ⟨h0, h1⟩)).trans (if_neg fun m => hm ⟨⟨h0, h1⟩, m⟩)
  generalize pfE g k = v at *
  have h1' : ¬ (pp g.kind : Int) ≤ k := by omega
  clear hm
  go_enter Tryz.func183, Tryz.ntmps183
  go_wp2_with fail
  refine H1.out.mono ?_
  rintro e w1 ⟨rfl, hw⟩
  obtain rfl := hw.symm
  clear hw
  go_wp2_with fail
  refine H2.out.mono ?_
  rintro e w1 ⟨rfl, m, rfl⟩
  go_wp2
  go_ret
  exact ⟨by rw [he.out]; simp, (Fr.refl _ _).drewN m⟩
set_option maxRecDepth 20000 in
set_option maxHeartbeats 4000000 in
theorem l_free_ok (ht : Tab w) (ok : g.Ok bs) (h : Pp w0 Z0 w p a rd wt sa sb Z bs ss g) (hk : ss.length < 1000000) (k : Nat) (hm : g.May k) : Calls Tryz.prog 183 #[.pointer (some ⟨p, 0, none⟩), .int .i64 k] w fun e w' => e = .returned (.int .i64 0) ∧ ∃ Z', Pp w0 Z0 w' p a rd wt sa sb Z' (pfB g bs k) (pfT g ss k) (pfS g k) := by
  have H1 := hid (Sf.s_size h.sh)
  rw [hs_length] at H1
  have H2 := hid (Sf.s_taken h.sh (k : Int))
  rw [hs_isT, decide_eq_true hm] at H2
  have HU := punit_at ok ht
  obtain ⟨⟨h0, h1⟩, hh⟩ := id hm
  have hkp : k < pp g.kind := by omega
  obtain ⟨⟨u1, u2⟩, ⟨_, hp32⟩, _⟩ := kind_facts g.kind ok.kind
  have hb := ok.block hkp
  have hfit := ok.fit
  have hle := h.am.le
  have hpos : k * pu g.kind + g.base = g.pos k := by unfold Pg.pos; omega
  have r1 : IntKind.i64.wrap ((k : Int) * (pu g.kind : Int)) = ((k * pu g.kind : Nat) : Int) := by rw [← Int.natCast_mul]; exact wrapI _ (by omega) (by omega)
  have r2 : IntKind.i64.wrap ((g.base : Int) + ((k * pu g.kind : Nat) : Int)) = (g.pos k : Int) := by rw [wrapI _ (by omega) (by omega)]; omega
  have eT : pfT g ss k = ss ++ [((g.pos k : Int), (pu g.kind : Int), true)] ++ [((g.pos k : Int), (8 : Int), true)] := if_pos hm
  have eB : pfB g bs k = over (over bs (g.pos k) (List.replicate (pu g.kind) 0)) (g.pos k) (leb (lnk g.D) 8) := if_pos hm
  have eS : pfS g k = ⟨g.base, g.kind, g.fresh, g.R, k :: g.D⟩ := if_pos hm
  have eL : (over bs (g.pos k) (List.replicate (pu g.kind) 0)).length = bs.length := over_length _ _ _ (by rw [List.length_replicate]; omega)
  have H3 : Hid (∀ w1, Pp w0 Z0 w1 p a rd wt sa sb Z bs ss g → Calls Tryz.prog 126 #[.pointer (some ⟨a, 0, none⟩), .int .i64 (g.pos k), .int .i64 (pu g.kind)] w1 fun e w' => e = .returned (.int .i64 0) ∧ ∃ Z', Pp w0 Z0 w' p a rd wt sa sb Z' (over bs (g.pos k) (List.replicate (pu g.kind) 0)) (ss ++ [((g.pos k : Int), (pu g.kind : Int), true)]) g) := fun w1 h1 => (am_zero h1.am (g.pos k) (pu g.kind) (by omega) (by omega)).mono fun e w' ⟨he, Z', a1, a2⟩ => by
    have en : noted ss (g.pos k) (pu g.kind) true = ss ++ [((g.pos k : Int), (pu g.kind : Int), true)] := if_pos (by omega)
    rw [en] at a1
    exact ⟨he, Z', h1.arena a1 a2⟩
  have hld : lnk g.D ≤ pp g.kind := lnk_lt ok.ld
  have H4 : Hid (∀ w1 Z1, Pp w0 Z0 w1 p a rd wt sa sb Z1 (over bs (g.pos k) (List.replicate (pu g.kind) 0)) (ss ++ [((g.pos k : Int), (pu g.kind : Int), true)]) g → Calls Tryz.prog 227 #[.pointer (some ⟨wt, 0, none⟩), .int .i64 k] w1 fun e w' => e = .returned (.int .i64 0) ∧ ∃ Z', Ppr w0 Z0 w' p a rd wt sa sb Z' (pfB g bs k) (pfT g ss k) g.base g.kind g.fresh (hs g) (g.ck (lnk g.R)) (g.ck (k + 1))) := fun w1 Z1 h1 => by
    rw [eT, eB]
    exact (p_push_ok h1.qw h1.am (by rw [eL]; exact ok.ck hld) h1.z3 (by simp; omega) hkp).mono fun e w' ⟨he, Z', hL⟩ => ⟨he, Z', h1.waiting hL⟩
  have HH : hs (pfS g k) = (hs g).set k false := by
    rw [eS]
    refine hs_set rfl fun i hi => ?_
    show (i < g.fresh ∧ i ∉ g.R ∧ i ∉ k :: g.D) ↔ _
    by_cases hi : i = k
    · subst hi
      rw [if_pos rfl]
      exact ⟨fun m => (m.2.2 (List.mem_cons_self ..)).elim, fun m => by cases m⟩
    · rw [if_neg hi, List.mem_cons, not_or]
      exact ⟨fun ⟨a, b, c⟩ => ⟨a, b, c.2⟩, fun ⟨a, b, c⟩ => ⟨a, b, hi, c⟩⟩
  have H5 : Hid (∀ w1 Z1, Ppr w0 Z0 w1 p a rd wt sa sb Z1 (pfB g bs k) (pfT g ss k) g.base g.kind g.fresh (hs g) (g.ck (lnk g.R)) (g.ck (k + 1)) → Calls Tryz.prog 172 #[.pointer (some ⟨sa, 0, none⟩), .int .i64 k] w1 fun e w' => e = .returned (.int .i64 0) ∧ Pp w0 Z0 w' p a rd wt sa sb Z1 (pfB g bs k) (pfT g ss k) (pfS g k)) := fun w1 Z1 h1 => by
    have hN : Sf.hasN (hs g) (k : Int) = true := by rw [hs_hasN]; exact decide_eq_true hm.1
    have hT : Sf.isT (hs g) (k : Int) = true := by rw [hs_isT]; exact decide_eq_true hm
    refine (Sf.s_give h1.sh (k : Int)).mono fun e w' ⟨he, q, f⟩ => ⟨by rw [he, Sf.giE_zero.2 ⟨hN, hT⟩], ?_⟩
    unfold Sf.giS at q
    rw [if_pos hN, Int.toNat_natCast, ← HH] at q
    have h2 := h1.shelf q f
    show Ppr w0 Z0 w' p a rd wt sa sb Z1 (pfB g bs k) (pfT g ss k) (pfS g k).base (pfS g k).kind (pfS g k).fresh (hs (pfS g k)) ((pfS g k).ck (lnk (pfS g k).R)) ((pfS g k).ck (lnk (pfS g k).D))
    rw [eS] at h2 ⊢
    exact h2
  have HP := hid h
  have c6 := h.pw.c6
  have h1' : ¬ (pp g.kind : Int) ≤ k := by omega
  clear h ht ok hm hh eT eB eS eL hld hpos hb hfit hle hk HH
  generalize pfS g k = g2 at *
  generalize pfB g bs k = bs2 at *
  generalize pfT g ss k = ss2 at *
  generalize g.pos k = ps at *
  generalize k * pu g.kind = m at *
  go_enter Tryz.func183, Tryz.ntmps183
  go_wp2_with fail
  refine H1.out.mono ?_
  rintro e w1 ⟨rfl, hw⟩
  obtain rfl := hw.symm
  clear hw H1
  go_wp2_with fail
  refine H2.out.mono ?_
  rintro e w1 ⟨rfl, n1, rfl⟩
  have F1 : Hid (Fr (fun _ => False) w (w.drewN n1)) := (Fr.refl _ _).drewN n1
  have HP1 := hid (HP.out.kept F1.out)
  have d4 := HP1.out.pw.c4
  clear H2 HP c6
  go_wp2_with fail
  refine (HU.out _ F1.out).mono ?_
  rintro e w2 ⟨rfl, f2⟩
  have HP2 := hid (HP1.out.kept f2)
  have e2 := HP2.out.pw.c2
  have e3 := HP2.out.pw.c3
  clear f2 HP1 d4 HU F1
  go_wp2_with fail
  go_region_held3 (fun w' => w'.cell? ⟨p, 2, none⟩ = some (.pointer (some ⟨a, 0, none⟩)) ∧ w'.cell? ⟨p, 3, none⟩ = some (.int .i64 g.base)) (first | exact ⟨by assumption, by assumption⟩ | go_keep) (first | (go_at_call 126; refine (H3.out _ (HP2.out.kept (Fr.refl _ _).drew)).mono ?_; rintro e w4 ⟨rfl, Z4, h4⟩; have HP4 := hid h4; have g2 := HP4.out.pw.c2; have g3 := HP4.out.pw.c3; clear h4))
  have g1 := HP4.out.pw.c1
  clear HP2 H3 e2 e3 g2 g3
  go_wp2_with fail
  refine (H4.out _ _ HP4.out).mono ?_
  rintro e w5 ⟨rfl, Z5, h5⟩
  have HP5 := hid h5
  have i6 := HP5.out.pw.c6
  clear h5 HP4 H4 g1
  go_wp2_with fail
  refine (H5.out _ _ HP5.out).mono ?_
  rintro e w6 ⟨rfl, h6⟩
  have HP6 := hid h6
  clear h6 HP5 H5 i6
  go_wp2
  go_ret
  exact ⟨by simp, Z5, HP6.out⟩
theorem l_free (ht : Tab w) (ok : g.Ok bs) (h : Pp w0 Z0 w p a rd wt sa sb Z bs ss g) (hk : ss.length < 1000000) (k : Int) : Calls Tryz.prog 183 #[.pointer (some ⟨p, 0, none⟩), .int .i64 k] w fun e w' => e = .returned (.int .i64 (pfE g k)) ∧ ∃ Z', Pp w0 Z0 w' p a rd wt sa sb Z' (pfB g bs k) (pfT g ss k) (pfS g k) := by
  by_cases hm : g.May k
  · obtain ⟨k, rfl⟩ := Int.eq_ofNat_of_zero_le hm.1.1
    have he : pfE g (k : Int) = 0 := (if_pos hm.1).trans (if_pos hm.2)
    rw [he]
    exact l_free_ok ht ok h hk k hm
  · have e1 : pfB g bs k = bs := if_neg hm
    have e2 : pfT g ss k = ss := if_neg hm
    have e3 : pfS g k = g := if_neg hm
    rw [e1, e2, e3]
    exact (l_free_no h k hm).mono fun e w' ⟨he, f⟩ => ⟨he, Z, h.kept f⟩
set_option maxRecDepth 20000 in
set_option maxHeartbeats 2000000 in
theorem l_move (ok : g.Fit bs.length) (h : Pp w0 Z0 w p a rd wt sa sb Z bs ss g) {x : Int} (hi : I64 x) : Calls Tryz.prog 148 #[.pointer (some ⟨p, 0, none⟩), .int .i64 x] w fun e w' => e = .returned (.int .i64 (pmE bs.length x)) ∧ Pp w0 Z0 w' p a rd wt sa sb Z bs ss (pmS g bs.length x) := by
  have H1 : Hid (∀ w1, Fr (fun _ => False) w w1 → Calls Tryz.prog 206 #[.pointer (some ⟨a, 0, none⟩), .int .i64 x] w1 fun e w' => e = .returned (.bool (decide (Fits bs.length x))) ∧ w' = w1) := fun w1 f => l_lies (h.am.kept f) hi
  have HP := hid h
  have c2 := h.pw.c2
  by_cases hf : Fits bs.length x
  · rw [decide_eq_true hf] at H1
    have hE : pmE bs.length x = 0 := if_pos hf
    have hS : pmS g bs.length x = ⟨x.toNat, g.kind, g.fresh, g.R, g.D⟩ := if_pos hf
    obtain ⟨x, rfl⟩ := Int.eq_ofNat_of_zero_le hf.1
    have hkf := kind_facts g.kind ok.kind
    have hlr := ok.r
    have hld := ok.d
    have hlie : ∀ v, (g.ck v).Lies bs.length (x : Int) := fun v => ⟨hf.1, by show (x : Int) + ((pu g.kind * pp g.kind : Nat) : Int) ≤ _; have := hf.2.2; have := hkf.2.2.1; omega⟩
    have HR : Hid (∀ w1 kw, Ppr w0 Z0 w1 p a rd wt sa sb Z bs ss g.base g.kind g.fresh (hs g) (g.ck (lnk g.R)) kw → Calls Tryz.prog 207 #[.pointer (some ⟨rd, 0, none⟩), .int .i64 x] w1 fun e w' => e = .returned (.int .i64 0) ∧ Ppr w0 Z0 w' p a rd wt sa sb Z bs ss g.base g.kind g.fresh (hs g) ⟨x, pu g.kind, pp g.kind, lnk g.R⟩ kw) := fun w1 kw h1 => by
      refine (p_move h1.qr h1.am (ok.ck hlr) (x : Int) hi.2).mono fun e w' ⟨he, q, f⟩ => ⟨by rw [he]; unfold moE; rw [if_pos (hlie _)], ?_⟩
      unfold moS at q
      rw [if_pos (hlie _)] at q
      exact h1.ready (Left.own h1.am h1.z2 q f)
    have HW : Hid (∀ w1 kr, Ppr w0 Z0 w1 p a rd wt sa sb Z bs ss g.base g.kind g.fresh (hs g) kr (g.ck (lnk g.D)) → Calls Tryz.prog 207 #[.pointer (some ⟨wt, 0, none⟩), .int .i64 x] w1 fun e w' => e = .returned (.int .i64 0) ∧ Ppr w0 Z0 w' p a rd wt sa sb Z bs ss g.base g.kind g.fresh (hs g) kr ⟨x, pu g.kind, pp g.kind, lnk g.D⟩) := fun w1 kr h1 => by
      refine (p_move h1.qw h1.am (ok.ck hld) (x : Int) hi.2).mono fun e w' ⟨he, q, f⟩ => ⟨by rw [he]; unfold moE; rw [if_pos (hlie _)], ?_⟩
      unfold moS at q
      rw [if_pos (hlie _)] at q
      exact h1.waiting (Left.own h1.am h1.z3 q f)
    rw [hE, hS]
    clear h ok hf hE hS hkf hlr hld hlie
    go_enter Tryz.func148, Tryz.ntmps148
    go_wp2_with fail
    refine (H1.out _ (Fr.refl _ _)).mono ?_
    rintro e w1 ⟨rfl, hw⟩
    obtain rfl := hw.symm
    clear hw H1
    have c0 := HP.out.pw.c0
    go_wp2_with fail
    refine (HR.out _ _ HP.out).mono ?_
    rintro e w3 ⟨rfl, h3⟩
    have HP3 := hid h3
    have e1 := h3.pw.c1
    clear h3 HR c0 c2 HP
    go_wp2_with fail
    refine (HW.out _ _ HP3.out).mono ?_
    rintro e w4 ⟨rfl, h4⟩
    have e3 := h4.pw.c3
    have fz := h4.pw.fz
    have HP4 := hid (h4.own (h4.pw.setBase (x : Int)))
    clear h4 HP3 HW e1
    go_wp2
    go_ret
    exact ⟨by simp, HP4.out⟩
  · rw [decide_eq_false hf] at H1
    have hE : pmE bs.length x = 12 := if_neg hf
    have hS : pmS g bs.length x = g := if_neg hf
    rw [hE, hS]
    clear h ok hf hE hS
    go_enter Tryz.func148, Tryz.ntmps148
    go_wp2_with fail
    refine (H1.out _ (Fr.refl _ _)).mono ?_
    rintro e w1 ⟨rfl, hw⟩
    obtain rfl := hw.symm
    clear hw H1
    go_wp2
    go_ret
    exact ⟨by simp, HP.out⟩
end
end Go.Proofs.YtndhbnhobhkmaaaGreatDoor
namespace Go.Proofs.YtndhbnhobhkmaaaGreatDoor
open Go.RowKit
open An

def Tc (w : World) (B : Nat) (v1 v2 : Value) : Prop := w.heap[B]? = some (.cells #[v1, v2] 241 (0, 0))
theorem Tc.kept {w w' : World} {B : Nat} {v1 v2 : Value} (h : Tc w B v1 v2) (f : Fr (fun _ => False) w w') : Tc w' B v1 v2 := (f.block B (Array.getElem?_eq_some_iff.1 h).1 id).trans h
theorem Tc.c0 {w : World} {B : Nat} {v1 v2 : Value} (h : Tc w B v1 v2) : w.cell? ⟨B, 0, none⟩ = some v1 := by unfold Tc at h; simp [World.cell?, h]
theorem Tc.c1 {w : World} {B : Nat} {v1 v2 : Value} (h : Tc w B v1 v2) : w.cell? ⟨B, 1, none⟩ = some v2 := by unfold Tc at h; simp [World.cell?, h]
theorem Tc.fz {w : World} {B : Nat} {v1 v2 : Value} (h : Tc w B v1 v2) (j : Nat) : w.frozen? ⟨B, j, none⟩ = false := by unfold Tc at h; simp [World.frozen?, h]
theorem Tc.put {w : World} {B : Nat} {v1 v2 : Value} (h : Tc w B v1 v2) (u1 u2 : Value) : Tc ((w.setCell ⟨B, 0, none⟩ u1).setCell ⟨B, 1, none⟩ u2) B u1 u2 := by unfold Tc at h ⊢; simp [World.setCell, Array.getElem?_modify, h]
section
variable {w0 w : World} {Z0 Z U : Nat → Prop} {a p rd wt sa sb : Nat} {bs : List UInt8} {ss : List Sp} {g : Pg}
set_option maxRecDepth 20000 in
set_option maxHeartbeats 2000000 in
theorem l_chains (ht : Tab w) (h : Am 111 a bs ss w Z) {x kd : Nat} (hk : kd ≤ 7) (hf : Fits bs.length x) : Calls Tryz.prog 243 #[.pointer (some ⟨a, 0, none⟩), .int .i64 x, .int .i64 kd] w fun e w' => ∃ rd wt, e = .returned (.tuple #[.agg #[.pointer (some ⟨rd, 0, none⟩), .pointer (some ⟨wt, 0, none⟩)], .int .i64 0]) ∧ (w.heap.size ≤ rd ∧ w.heap.size ≤ wt ∧ rd ≠ wt) ∧ Chm w' rd a ⟨x, pu kd, pp kd, 0⟩ ∧ Chm w' wt a ⟨x, pu kd, pp kd, 0⟩ ∧ Fr (fun _ => False) w w' := by
  have hkf := kind_facts kd hk
  have HU : Hid (∀ w1, Fr (fun _ => False) w w1 → Calls Tryz.prog 82 #[.int .i64 kd] w1 fun e w' => e = .returned (.int .i64 (pu kd)) ∧ Fr (fun _ => False) w1 w') := fun w1 f => (k_unit kd (K.start (ht.carry f id))).mono fun e w' ⟨he, k⟩ => ⟨by rw [he, hkf.2.2.2.1], k.fr⟩
  have HPe : Hid (∀ w1, Fr (fun _ => False) w w1 → Calls Tryz.prog 180 #[.int .i64 kd] w1 fun e w' => e = .returned (.int .i64 (pp kd)) ∧ Fr (fun _ => False) w1 w') := fun w1 f => (k_per kd (K.start (ht.carry f id))).mono fun e w' ⟨he, k⟩ => ⟨by rw [he, hkf.2.2.2.2], k.fr⟩
  have hno : NewOk bs.length (x : Int) (pu kd : Int) (pp kd : Int) := ⟨⟨by omega, by omega⟩, ⟨by omega, by omega⟩, by omega, by rw [← Int.natCast_mul]; have := hf.2.2; have := hkf.2.2.1; omega⟩
  have HN : Hid (∀ w1, Fr (fun _ => False) w w1 → Calls Tryz.prog 249 #[.pointer (some ⟨a, 0, none⟩), .int .i64 x, .int .i64 (pu kd), .int .i64 (pp kd)] w1 fun e w' => ∃ c, e = .returned (.tuple #[.pointer (some ⟨c, 0, none⟩), .int .i64 0]) ∧ w1.heap.size ≤ c ∧ Chm w' c a ⟨x, pu kd, pp kd, 0⟩ ∧ Fr (fun _ => False) w1 w') := fun w1 f => p_new (h.kept f) hno
  have HB0 : Hid (Tc (w.alloc (.cells #[.pointer none, .pointer none] 241)) w.heap.size (.pointer none) (.pointer none) ∧ Fr (fun _ => False) w (w.alloc (.cells #[.pointer none, .pointer none] 241))) := ⟨heap_alloc_new w _, (Fr.refl _ _).alloc _⟩
  clear h ht hf hkf hno hk
  go_enter Tryz.func243, Tryz.ntmps243
  go_wp2_with fail
  refine (HU.out _ HB0.out.2).mono ?_
  rintro e w1 ⟨rfl, f1⟩
  have HB1 := hid (And.intro (HB0.out.1.kept f1) (HB0.out.2.trans f1))
  clear f1 HB0 HU
  go_wp2_with fail
  refine (HPe.out _ HB1.out.2).mono ?_
  rintro e w2 ⟨rfl, f2⟩
  have HB2 := hid (And.intro (HB1.out.1.kept f2) (HB1.out.2.trans f2))
  clear f2 HB1 HPe
  go_wp2_with fail
  refine (HN.out _ HB2.out.2).mono ?_
  rintro e w3 ⟨rd, rfl, hrd, q3, f3⟩
  have hl := (Array.getElem?_eq_some_iff.1 HB2.out.1).1
  have HB3 := hid (And.intro (HB2.out.1.kept f3) (HB2.out.2.trans f3))
  have HQ3 : Hid (w.heap.size < rd ∧ Chm w3 rd a ⟨x, pu kd, pp kd, 0⟩) := ⟨by omega, q3⟩
  clear f3 HB2 hrd q3 hl
  go_wp2_with fail
  refine (HN.out _ HB3.out.2).mono ?_
  rintro e w4 ⟨wt, rfl, hwt, q4, f4⟩
  have hl := Chm.chain.lt HQ3.out.2
  have hl2 := HQ3.out.1
  have h3 := HB3.out.2.trans f4
  have HB4 := hid (And.intro (HB3.out.1.kept f4) h3)
  have HQ4 : Hid ((w.heap.size < rd ∧ w.heap.size < wt ∧ rd ≠ wt) ∧ Chm w4 rd a ⟨x, pu kd, pp kd, 0⟩ ∧ Chm w4 wt a ⟨x, pu kd, pp kd, 0⟩) := ⟨⟨hl2, by omega, by omega⟩, Chm.chain.carry HQ3.out.2 f4 id, q4⟩
  have z0 := HB4.out.1.c0
  have z1 := HB4.out.1.c1
  have z2 := HB4.out.1.fz
  clear f4 HB3 hwt q4 hl hl2 h3 HN HQ3
  go_wp2
  have P := HB4.out.1.put (.pointer (some ⟨rd, 0, none⟩)) (.pointer (some ⟨wt, 0, none⟩))
  have k0 := P.c0
  have k1 := P.c1
  have f5 : Fr (fun i => i = w.heap.size) w4 ((w4.setCell ⟨w.heap.size, 0, none⟩ (.pointer (some ⟨rd, 0, none⟩))).setCell ⟨w.heap.size, 1, none⟩ (.pointer (some ⟨wt, 0, none⟩))) := Fr.setCell (S := fun i => i = w.heap.size) (p := ⟨w.heap.size, 1, none⟩) (Fr.setCell (S := fun i => i = w.heap.size) (p := ⟨w.heap.size, 0, none⟩) (Fr.refl _ _) rfl _) rfl _
  obtain ⟨⟨n1, n2, n3⟩, q1, q2⟩ := HQ4.out
  refine bodyPost_ret (v := .tuple #[.agg #[.pointer (some ⟨rd, 0, none⟩), .pointer (some ⟨wt, 0, none⟩)], .int .i64 0]) (by simp [results, Tryz.results243, go_sem, k0, k1]) rfl ⟨rd, wt, rfl, ⟨by omega, by omega, n3⟩, Chm.chain.carry q1 f5 (by omega), Chm.chain.carry q2 f5 (by omega), Fr.trans' HB4.out.2 f5 fun i hi e => by omega⟩
set_option maxRecDepth 20000 in
set_option maxHeartbeats 2000000 in
theorem x_new (h : Am 111 a bs ss w Z) (gr : Gr w) {x kd : Nat} (hk : kd ≤ 7) (hf : Fits bs.length x) : Calls Tryz.prog 223 #[.pointer (some ⟨a, 0, none⟩), .int .i64 x, .int .i64 kd] w fun e w' => ∃ p U', e = .returned (.tuple #[.pointer (some ⟨p, 0, none⟩), .int .i64 0]) ∧ Pa a bs ss p ⟨x, kd, 0, [], []⟩ w' U' ∧ Gw w w' Z U' := by
  have hkf := kind_facts kd hk
  have hle := h.le
  have H1 := hid (l_lies h (x := (x : Int)) ⟨by omega, by have := hf.2.2; omega⟩)
  rw [decide_eq_true hf] at H1
  have HPe : Hid (∀ w1, Fr (fun _ => False) w w1 → Calls Tryz.prog 180 #[.int .i64 kd] w1 fun e w' => e = .returned (.int .i64 (pp kd)) ∧ Fr (fun _ => False) w w') := fun w1 f => (k_per kd (K.start (gr.tab.carry f id))).mono fun e w' ⟨he, k⟩ => ⟨by rw [he, hkf.2.2.2.2], f.trans k.fr⟩
  have HS : Hid (∀ w1, Fr (fun _ => False) w w1 → Calls Tryz.prog 55 #[.int .i64 (pp kd)] w1 fun e w' => e = .returned (.tuple #[.pointer (some ⟨w1.heap.size + 1, 0, none⟩), .int .i64 0]) ∧ Sf.Sh w' (w1.heap.size + 1) w1.heap.size (List.replicate (pp kd) false) ∧ Fr (fun _ => False) w1 w') := fun w1 f => Sf.new_ok (pp kd) w1 (by omega) (Nat.lt_of_lt_of_le gr.2 f.size)
  have HC : Hid (∀ w1, Fr (fun _ => False) w w1 → Calls Tryz.prog 243 #[.pointer (some ⟨a, 0, none⟩), .int .i64 x, .int .i64 kd] w1 fun e w' => ∃ rd wt, e = .returned (.tuple #[.agg #[.pointer (some ⟨rd, 0, none⟩), .pointer (some ⟨wt, 0, none⟩)], .int .i64 0]) ∧ (w1.heap.size ≤ rd ∧ w1.heap.size ≤ wt ∧ rd ≠ wt) ∧ Chm w' rd a ⟨x, pu kd, pp kd, 0⟩ ∧ Chm w' wt a ⟨x, pu kd, pp kd, 0⟩ ∧ Fr (fun _ => False) w1 w') := fun w1 f => l_chains (gr.tab.carry f id) (h.kept f) hk hf
  have g1 : ¬ (kd : Int) < 0 := by omega
  have g2 : ¬ 8 ≤ (kd : Int) := by omega
  have HA := hid h
  clear h gr hk hf hkf hle
  go_enter Tryz.func223, Tryz.ntmps223
  go_wp2_with fail
  refine H1.out.mono ?_
  rintro e w1 ⟨rfl, hw⟩
  obtain rfl := hw.symm
  clear hw H1
  go_wp2_with fail
  refine (HPe.out _ (Fr.refl _ _)).mono ?_
  rintro e w2 ⟨rfl, f2⟩
  have HF2 := hid f2
  clear f2 HPe
  go_wp2_with fail
  refine (HS.out _ HF2.out).mono ?_
  rintro e w3 ⟨rfl, hsh, f3⟩
  have HH3 := hid hsh
  have HF3 := hid (And.intro (HF2.out.trans f3) f3.size)
  have HL3 := hid HF2.out.size
  clear f3 HS HF2 hsh
  generalize w2.heap.size = sb at *
  go_wp2_with fail
  refine (HC.out _ HF3.out.1).mono ?_
  rintro e w4 ⟨rd, wt, rfl, hne, q1, q2, f4⟩
  have HQ := hid (And.intro q1 q2)
  have HN := hid hne
  have HF4 := hid f4
  clear f4 q1 q2 hne HC
  go_wp2
  go_ret2
  have f5 : Fr (fun _ => False) w4 ((w4.alloc (.cells #[.pointer (some ⟨rd, 0, none⟩), .pointer (some ⟨wt, 0, none⟩)] 241)).alloc (.cells #[.pointer (some ⟨rd, 0, none⟩), .pointer (some ⟨wt, 0, none⟩), .pointer (some ⟨a, 0, none⟩), .int .i64 x, .int .i64 kd, .int .i64 0, .pointer (some ⟨sb + 1, 0, none⟩)] 243)) := ((Fr.refl _ _).alloc _).alloc _
  have q0 : Pw ((w4.alloc (.cells #[.pointer (some ⟨rd, 0, none⟩), .pointer (some ⟨wt, 0, none⟩)] 241)).alloc (.cells #[.pointer (some ⟨rd, 0, none⟩), .pointer (some ⟨wt, 0, none⟩), .pointer (some ⟨a, 0, none⟩), .int .i64 x, .int .i64 kd, .int .i64 0, .pointer (some ⟨sb + 1, 0, none⟩)] 243)) (w4.heap.size + 1) a x kd 0 rd wt (sb + 1) := by
    have := heap_alloc_new (w4.alloc (.cells #[.pointer (some ⟨rd, 0, none⟩), .pointer (some ⟨wt, 0, none⟩)] 241)) (.cells #[.pointer (some ⟨rd, 0, none⟩), .pointer (some ⟨wt, 0, none⟩), .pointer (some ⟨a, 0, none⟩), .int .i64 x, .int .i64 kd, .int .i64 0, .pointer (some ⟨sb + 1, 0, none⟩)] 243)
    rw [World.size_alloc] at this
    exact this
  have q1 := Chm.chain.carry HQ.out.1 f5 id
  have q2 := Chm.chain.carry HQ.out.2 f5 id
  have q3 := sh_on HH3.out (HF4.out.trans f5) id id
  have l1 := Chm.chain.lt HQ.out.1
  have l2 := Chm.chain.lt HQ.out.2
  have l3 := HH3.out.lta
  have l4 := HH3.out.ltb
  have l5 := HF4.out.size
  have f6 := (HF3.out.1.trans HF4.out).trans f5
  have hz := HA.out.lt
  obtain ⟨n1, n2, n3⟩ := HN.out
  have l0 := HL3.out
  have hA := HA.out.kept f6
  rw [← hs_none x kd] at q3
  generalize (w4.alloc (.cells #[.pointer (some ⟨rd, 0, none⟩), .pointer (some ⟨wt, 0, none⟩)] 241)).alloc (.cells #[.pointer (some ⟨rd, 0, none⟩), .pointer (some ⟨wt, 0, none⟩), .pointer (some ⟨a, 0, none⟩), .int .i64 x, .int .i64 kd, .int .i64 0, .pointer (some ⟨sb + 1, 0, none⟩)] 243) = w5 at *
  have l6 := q0.lt
  have hold : ∀ i, Five (w4.heap.size + 1) rd wt (sb + 1) sb i → w.heap.size ≤ i ∧ i < w5.heap.size := fun i hi => by
    rcases hi.is with rfl | rfl | rfl | rfl | rfl <;> omega
  have hlt : ∀ i, (Z i ∨ Five (w4.heap.size + 1) rd wt (sb + 1) sb i) → i < w5.heap.size := fun i hi => by
    rcases hi with hi | hi
    · exact Nat.lt_of_lt_of_le (hz i hi) f6.size
    · exact (hold i hi).2
  refine ⟨w4.heap.size + 1, fun i => Z i ∨ Five (w4.heap.size + 1) rd wt (sb + 1) sb i, by simp, ⟨Z, fun i => Five (w4.heap.size + 1) rd wt (sb + 1) sb i, hA, ⟨rd, wt, sb + 1, sb, q0, q1, q2, q3, ⟨⟨by omega, by omega, by omega, by omega⟩, ⟨n3, by omega, by omega⟩, by omega, by omega⟩, fun _ => id, fun i hi => (hold i hi).2⟩, fun i hi e => ?_, fun _ => .inl, fun _ => .inr, hlt⟩, ⟨fun _ => .inl, fun i hi => ?_, hlt, f6.mono fun _ _ e => e.elim⟩⟩
  · have := (hold i e).1
    have := hz i hi
    omega
  · rcases hi with hi | hi
    · exact .inl hi
    · exact .inr (hold i hi).1
end
end Go.Proofs.YtndhbnhobhkmaaaGreatDoor
namespace Go.Proofs.YtndhbnhobhkmaaaGreatDoor
open Go.RowKit
open An

section
variable {w : World} {a p : Nat} {U Z : Nat → Prop} {bs : List UInt8} {ss : List Sp} {g : Pg}
theorem x_alloc (h : Pa a bs ss p g w U) (_gr : Gr w) (ok : g.Ok bs) (hk : ss.length ≤ 900000) : Calls Tryz.prog 222 #[.pointer (some ⟨p, 0, none⟩)] w fun e w' => e = .returned (.tuple #[.int .i64 (paV g), .int .i64 (paE g)]) ∧ ∃ U', Pa a (paB g bs) (paT g ss) p (paS g) w' U' ∧ Gw w w' U U' := by
  obtain ⟨Z, rd, wt, sa, sb, h1, h2, h3⟩ := h.into
  exact (l_alloc ok h1 (by omega)).mono fun e w' ⟨he, Z', h5⟩ => ⟨he, Pa.back h2 h3 h5⟩
theorem x_free (h : Pa a bs ss p g w U) (gr : Gr w) (ok : g.Ok bs) (hk : ss.length ≤ 900000) {k : Int} (_hi : I64 k) : Calls Tryz.prog 183 #[.pointer (some ⟨p, 0, none⟩), .int .i64 k] w fun e w' => e = .returned (.int .i64 (pfE g k)) ∧ ∃ U', Pa a (pfB g bs k) (pfT g ss k) p (pfS g k) w' U' ∧ Gw w w' U U' := by
  obtain ⟨Z, rd, wt, sa, sb, h1, h2, h3⟩ := h.into
  exact (l_free gr.tab ok h1 (by omega) k).mono fun e w' ⟨he, Z', h5⟩ => ⟨he, Pa.back h2 h3 h5⟩
theorem x_move (h : Pa a bs ss p g w U) (_gr : Gr w) (fit : g.Fit bs.length) {x : Int} (hi : I64 x) : Calls Tryz.prog 148 #[.pointer (some ⟨p, 0, none⟩), .int .i64 x] w fun e w' => e = .returned (.int .i64 (pmE bs.length x)) ∧ ∃ U', Pa a bs ss p (pmS g bs.length x) w' U' ∧ Gw w w' U U' := by
  obtain ⟨Z, rd, wt, sa, sb, h1, h2, h3⟩ := h.into
  exact (l_move fit h1 hi).mono fun e w' ⟨he, h5⟩ => ⟨he, Pa.back h2 h3 h5⟩
theorem x_has (h : Pa a bs ss p g w U) (_gr : Gr w) (_ok : g.Ok bs) {k : Int} (_hi : I64 k) : Calls Tryz.prog 224 #[.pointer (some ⟨p, 0, none⟩), .int .i64 k] w fun e w' => e = .returned (.bool (decide (g.May k))) ∧ Fr (fun _ => False) w w' := by
  obtain ⟨Z, rd, wt, sa, sb, h1, _⟩ := h.into
  exact l_has h1 k
theorem x_used (h : Pa a bs ss p g w U) (_gr : Gr w) (ok : g.Ok bs) : Calls Tryz.prog 185 #[.pointer (some ⟨p, 0, none⟩)] w fun e w' => e = .returned (.int .i64 (g.used : Int)) ∧ Fr (fun _ => False) w w' := by
  obtain ⟨Z, rd, wt, sa, sb, h1, _⟩ := h.into
  exact l_used ok h1
theorem x_full (h : Pa a bs ss p g w U) (_gr : Gr w) (ok : g.Ok bs) : Calls Tryz.prog 182 #[.pointer (some ⟨p, 0, none⟩)] w fun e w' => e = .returned (.bool (decide g.Full)) ∧ Fr (fun _ => False) w w' := by
  obtain ⟨Z, rd, wt, sa, sb, h1, _⟩ := h.into
  exact (l_full ok h1).mono fun e w' ⟨he, hw⟩ => ⟨he, by rw [hw]; exact Fr.refl _ _⟩
end
end Go.Proofs.YtndhbnhobhkmaaaGreatDoor
