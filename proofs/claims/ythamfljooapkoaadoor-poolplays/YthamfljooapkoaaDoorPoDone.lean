/-
  The program's pool and the document's side by side; a call of both.
-/
import Derived.Test.YthamfljooapkoaaDoorPoState
namespace Go.Proofs.YthamfljooapkoaaDoor
open Go.RowKit

/-- Both pools, made behind W, with the same owners. -/
structure Bo (W w : World) (a : Nat) (Z : Nat → Prop) (r t : Nat) (own : List Int) : Prop where
  p : Pn W w a Z own
  d : Rp w r t own
  zr : ¬ Z r
  zt : ¬ Z t
  r0 : W.heap.size ≤ r
  t0 : W.heap.size ≤ t
/-- Three numbers in block B. -/
structure Bx (w : World) (B : Nat) (k a b : Int) : Prop where
  heap : w.heap[B]? = some (.cells #[.int .i64 k, .int .i64 a, .int .i64 b] 32 (0, 0))
section
variable {W w w' : World} {B : Nat} {k a b : Int}
theorem Bx.new (w : World) (k a b : Int) : Bx (w.alloc (.cells #[.int .i64 k, .int .i64 a, .int .i64 b] 32)) w.heap.size k a b := ⟨heap_alloc_new w _⟩
theorem Bx.lt (h : Bx w B k a b) : B < w.heap.size := (Array.getElem?_eq_some_iff.1 h.heap).1
theorem Bx.carry {S : Nat → Prop} (h : Bx w B k a b) (f : Fr S w w') (hn : ¬ S B) : Bx w' B k a b := ⟨by rw [f.block B h.lt hn]; exact h.heap⟩
theorem Bx.kept (h : Bx w B k a b) (f : Fr (fun _ => False) w w') : Bx w' B k a b := h.carry f id
theorem Bx.c0 (h : Bx w B k a b) : w.cell? ⟨B, 0, none⟩ = some (.int .i64 k) := by simp [World.cell?, h.heap]
theorem Bx.c1 (h : Bx w B k a b) : w.cell? ⟨B, 1, none⟩ = some (.int .i64 a) := by simp [World.cell?, h.heap]
theorem Bx.c2 (h : Bx w B k a b) : w.cell? ⟨B, 2, none⟩ = some (.int .i64 b) := by simp [World.cell?, h.heap]
end
section
variable {W w w' : World} {a r t : Nat} {Z Z' : Nat → Prop} {own own' : List Int}
theorem Bo.kept (h : Bo W w a Z r t own) (f : Fr (fun _ => False) w w') : Bo W w' a Z r t own := ⟨h.p.kept f, h.d.kept f, h.zr, h.zt, h.r0, h.t0⟩
theorem Bo.alloc (h : Bo W w a Z r t own) (o : Obj) : Bo W (w.alloc o) a Z r t own := h.kept ((Fr.refl _ _).alloc o)
/-- The program's pool took a step, then the document's the same. -/
theorem Bo.both {w1 w2 : World} (h : Bo W w a Z r t own) (hz : ∀ i, Z' i → Z i ∨ w.heap.size ≤ i) (p : Pn W w1 a Z' own') (_f1 : Fr Z w w1) (d : Rp w2 r t own') (f2 : Fr (fun i => i = t) w1 w2) : Bo W w2 a Z' r t own' := by
  have hr := h.d.ltr
  have ht := h.d.ltt
  have zt : ¬ Z' t := fun e => by rcases hz t e with k | k; exact h.zt k; omega
  refine ⟨⟨p.m.carry f2 (fun i hi e => zt (e ▸ hi)) (fun e => by have := h.t0; have := p.p0; omega), p.z, p.nw.on f2 (fun i e => by have := h.t0; omega), p.p0⟩, d, fun e => ?_, zt, h.r0, h.t0⟩
  rcases hz r e with k | k
  · exact h.zr k
  · omega
theorem Bo.mid {w1 : World} (h : Bo W w a Z r t own) (f1 : Fr Z w w1) : Rp w1 r t own := h.d.carry f1 h.zr h.zt
end
/-- What a call of either leaves. -/
def stepP (own : List Int) (kind o k : Int) : List Int := if kind = 1 then grS own o k else if kind = 2 then shS own o k else if kind = 3 then shS own o 0 else own
theorem stepP_length (own : List Int) (kind o k : Int) : (stepP own kind o k).length = own.length := by
  unfold stepP; repeat' split
  · exact setAll_length _ _ _
  · exact setAll_length _ _ _
  · exact setAll_length _ _ _
  · rfl
/-- All that a call may turn. -/
def ZT (Z : Nat → Prop) (t : Nat) (i : Nat) : Prop := Z i ∨ i = t
section
variable {W w : World} {a r t : Nat} {Z : Nat → Prop} {own : List Int}
set_option maxRecDepth 20000 in
set_option maxHeartbeats 1000000 in
theorem done_any (h : Bo W w a Z r t own) (kind o k : Int) : Calls Tryd.prog 12 #[.pointer (some ⟨a, 0, none⟩), .pointer (some ⟨r, 0, none⟩), .agg #[.int .i64 kind, .int .i64 o, .int .i64 k]] w fun e w' => e = .returned (.bool true) ∧ ∃ Z', Bo W w' a Z' r t (stepP own kind o k) ∧ (∀ i, Z' i → Z i ∨ w.heap.size ≤ i) ∧ Fr (ZT Z t) w w' := by
  have HX := hid (Bx.new w kind o k)
  have HB := hid (h.alloc (.cells #[.int .i64 kind, .int .i64 o, .int .i64 k] 32))
  have hnx : Hid (¬ Z w.heap.size) := h.p.new
  have hntx : Hid (¬ w.heap.size = t) := fun e => by have := h.d.ltt; omega
  have hl32 : Hid (∀ n : Nat, n ≤ own.length → n ≤ 1000) := fun n hn => by have := h.d.own.most; omega
  have c0 := HX.out.c0
  have c1 := HX.out.c1
  have c2 := HX.out.c2
  have hsz : Hid (∀ i, w.heap.size + 1 ≤ i → w.heap.size ≤ i) := fun i hi => by omega
  clear h
  by_cases hk1 : kind = 1
  · subst hk1
    have HS : Hid (stepP own 1 o k = grS own o k) := rfl
    have HLE : Hid ((nI (grL own o k)).length ≤ 1000) := hl32.out _ (by rw [nI_length]; exact grL_le _ _ _)
    have H1 := hid (n_grant HB.out.p o k)
    have H2 := hid fun w (h : Rp w r t own) => r_grant h o k
    rw [HS.out]
    clear HS
    generalize nI (grL own o k) = L at *
    go_enter Tryd.func12, Tryd.ntmps12
    go_wp2_with fail
    refine H1.out.mono ?_
    rintro e w1 ⟨Z1, ⟨ad1, cap1, rfl, hk, hnb⟩, hp, hz, f1⟩
    have HX1 := hid (HX.out.carry f1 hnx.out)
    have HD1 := hid (HB.out.mid f1)
    have HP := hid (And.intro hp (And.intro hz f1))
    have HK := hid hk
    have HNB : Hid (∀ b off, ad1 = some ⟨b, off, none⟩ → ¬ b = t) := fun b off e hb => by have h1 := hnb b off e; have h2 := HB.out.d.ltt; omega
    clear hnb
    clear hk hp hz f1 c0 c1 c2 HX H1
    have c0 := HX1.out.c0
    have c1 := HX1.out.c1
    have c2 := HX1.out.c2
    go_wp2_with fail
    refine (H2.out _ HD1.out).mono ?_
    rintro e w2 ⟨⟨ad2, cap2, rfl, hn2, _⟩, hd, f2⟩
    have HB2 := hid (HB.out.both HP.out.2.1 HP.out.1 HP.out.2.2 hd f2)
    have HN1 : Hid (NumsAt w2 ad1 L) := HK.out.at_.carry f2 (fun b off e h0 hb => HNB.out b off e hb)
    have HN2 := hid hn2
    have HF2 : Hid (Fr (ZT Z t) w w2) := (((Fr.refl (ZT Z t) w).alloc _).trans (HP.out.2.2.mono fun _ _ e => .inl e)).trans (f2.mono fun _ _ e => .inr e)
    have HZ2 : Hid (∀ i, Z1 i → Z i ∨ w.heap.size ≤ i) := fun i hi => by
      rcases HP.out.2.1 i hi with h | h
      · exact .inl h
      · exact .inr (hsz.out i (by simpa using h))
    clear hd f2 hn2 HB HP HX1 HD1 H2 HK c0 c1 c2
    go_wp2_with fail
    refine (same_yes cap1 cap2 HN1.out HN2.out HLE.out).mono ?_
    rintro e w3 ⟨rfl, f3⟩
    have HB3 := hid (HB2.out.kept f3)
    have HF3 := hid (HF2.out.trans (f3.mono fun _ _ e => e.elim))
    clear f3 HB2 HF2
    go_wp2
    go_ret
    exact ⟨by simp, Z1, HB3.out, HZ2.out, HF3.out⟩
  by_cases hk2 : kind = 2
  · subst hk2
    have HS : Hid (stepP own 2 o k = shS own o k) := rfl
    have HLE : Hid ((nI (shL own o k)).length ≤ 1000) := hl32.out _ (by rw [nI_length]; exact shL_le _ _ _)
    have H1 := hid (n_shrink HB.out.p o k)
    have H2 := hid fun w (h : Rp w r t own) => r_shrink h o k
    rw [HS.out]
    clear HS
    generalize nI (shL own o k) = L at *
    go_enter Tryd.func12, Tryd.ntmps12
    go_wp2_with fail
    refine H1.out.mono ?_
    rintro e w1 ⟨Z1, ⟨ad1, cap1, rfl, hk, hnb⟩, hp, hz, f1⟩
    have HX1 := hid (HX.out.carry f1 hnx.out)
    have HD1 := hid (HB.out.mid f1)
    have HP := hid (And.intro hp (And.intro hz f1))
    have HK := hid hk
    have HNB : Hid (∀ b off, ad1 = some ⟨b, off, none⟩ → ¬ b = t) := fun b off e hb => by have h1 := hnb b off e; have h2 := HB.out.d.ltt; omega
    clear hnb
    clear hk hp hz f1 c0 c1 c2 HX H1
    have c0 := HX1.out.c0
    have c1 := HX1.out.c1
    have c2 := HX1.out.c2
    go_wp2_with fail
    refine (H2.out _ HD1.out).mono ?_
    rintro e w2 ⟨⟨ad2, cap2, rfl, hn2, _⟩, hd, f2⟩
    have HB2 := hid (HB.out.both HP.out.2.1 HP.out.1 HP.out.2.2 hd f2)
    have HN1 : Hid (NumsAt w2 ad1 L) := HK.out.at_.carry f2 (fun b off e h0 hb => HNB.out b off e hb)
    have HN2 := hid hn2
    have HF2 : Hid (Fr (ZT Z t) w w2) := (((Fr.refl (ZT Z t) w).alloc _).trans (HP.out.2.2.mono fun _ _ e => .inl e)).trans (f2.mono fun _ _ e => .inr e)
    have HZ2 : Hid (∀ i, Z1 i → Z i ∨ w.heap.size ≤ i) := fun i hi => by
      rcases HP.out.2.1 i hi with h | h
      · exact .inl h
      · exact .inr (hsz.out i (by simpa using h))
    clear hd f2 hn2 HB HP HX1 HD1 H2 HK c0 c1 c2
    go_wp2_with fail
    refine (same_yes cap1 cap2 HN1.out HN2.out HLE.out).mono ?_
    rintro e w3 ⟨rfl, f3⟩
    have HB3 := hid (HB2.out.kept f3)
    have HF3 := hid (HF2.out.trans (f3.mono fun _ _ e => e.elim))
    clear f3 HB2 HF2
    go_wp2
    go_ret
    exact ⟨by simp, Z1, HB3.out, HZ2.out, HF3.out⟩
  by_cases hk3 : kind = 3
  · subst hk3
    have HS : Hid (stepP own 3 o k = shS own o 0) := rfl
    have HLE : Hid ((nI (shL own o 0)).length ≤ 1000) := hl32.out _ (by rw [nI_length]; exact shL_le _ _ _)
    have H1 := hid (n_drop HB.out.p o)
    have H2 := hid fun w (h : Rp w r t own) => r_shrink h o 0
    rw [HS.out]
    clear HS
    generalize nI (shL own o 0) = L at *
    go_enter Tryd.func12, Tryd.ntmps12
    go_wp2_with fail
    refine H1.out.mono ?_
    rintro e w1 ⟨Z1, ⟨ad1, cap1, rfl, hk, hnb⟩, hp, hz, f1⟩
    have HX1 := hid (HX.out.carry f1 hnx.out)
    have HD1 := hid (HB.out.mid f1)
    have HP := hid (And.intro hp (And.intro hz f1))
    have HK := hid hk
    have HNB : Hid (∀ b off, ad1 = some ⟨b, off, none⟩ → ¬ b = t) := fun b off e hb => by have h1 := hnb b off e; have h2 := HB.out.d.ltt; omega
    clear hnb
    clear hk hp hz f1 c0 c1 c2 HX H1
    have c0 := HX1.out.c0
    have c1 := HX1.out.c1
    have c2 := HX1.out.c2
    go_wp2_with fail
    refine (H2.out _ HD1.out).mono ?_
    rintro e w2 ⟨⟨ad2, cap2, rfl, hn2, _⟩, hd, f2⟩
    have HB2 := hid (HB.out.both HP.out.2.1 HP.out.1 HP.out.2.2 hd f2)
    have HN1 : Hid (NumsAt w2 ad1 L) := HK.out.at_.carry f2 (fun b off e h0 hb => HNB.out b off e hb)
    have HN2 := hid hn2
    have HF2 : Hid (Fr (ZT Z t) w w2) := (((Fr.refl (ZT Z t) w).alloc _).trans (HP.out.2.2.mono fun _ _ e => .inl e)).trans (f2.mono fun _ _ e => .inr e)
    have HZ2 : Hid (∀ i, Z1 i → Z i ∨ w.heap.size ≤ i) := fun i hi => by
      rcases HP.out.2.1 i hi with h | h
      · exact .inl h
      · exact .inr (hsz.out i (by simpa using h))
    clear hd f2 hn2 HB HP HX1 HD1 H2 HK c0 c1 c2
    go_wp2_with fail
    refine (same_yes cap1 cap2 HN1.out HN2.out HLE.out).mono ?_
    rintro e w3 ⟨rfl, f3⟩
    have HB3 := hid (HB2.out.kept f3)
    have HF3 := hid (HF2.out.trans (f3.mono fun _ _ e => e.elim))
    clear f3 HB2 HF2
    go_wp2
    go_ret
    exact ⟨by simp, Z1, HB3.out, HZ2.out, HF3.out⟩
  have HS : Hid (stepP own kind o k = own) := by show _ = _; unfold stepP; rw [if_neg hk1, if_neg hk2, if_neg hk3]
  rw [HS.out]
  have HE := hid (same_yes (w := w.alloc (.cells #[.int .i64 kind, .int .i64 o, .int .i64 k] 32)) (ad1 := none) (ad2 := none) (l := []) 0 0 (nums_none _ _) (nums_none _ _) (by decide))
  go_enter Tryd.func12, Tryd.ntmps12
  go_wp2_with fail
  refine HE.out.mono ?_
  rintro e w3 ⟨rfl, f3⟩
  have HB3 := hid (HB.out.kept f3)
  have HF3 : Hid (Fr (ZT Z t) w w3) := ((Fr.refl (ZT Z t) w).alloc _).trans (f3.mono fun _ _ e => e.elim)
  clear f3 HB
  go_wp2
  go_ret
  exact ⟨by simp, Z, HB3.out, fun i hi => .inl hi, HF3.out⟩
end
end Go.Proofs.YthamfljooapkoaaDoor
