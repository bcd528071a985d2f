/-
  What the calls of package line do: Len, Has, Front, ahead, All; maps.Clone.
-/
import Derived.Test.YtecckdedijhacaaLiLinks
import Derived.Test.YtecckdedijhacaaLists2
import Derived.ScopeJumps
import Derived.Deep.RegionHeld3
import Derived.Shelf.SlMaps.Clone
namespace Go.Proofs.Ytecckdedijhacaa
open Go.RowKit

/-- A scope whose label is jumped back to: what stands ahead of the label, and a pass. -/
theorem wp_scope_back {P : Program} {Q : Exit → Act → World → Prop} {a : Act} {w : World} {c rest : Code} (l : Nat) (J : Act → World → Prop) (μ : Act → World → Nat) (hf : findLabel c l = some (Code.skip.seq rest))
    (pre : ∀ R : Exit → Act → World → Prop, (∀ a w, J a w → rest.wp P R a w) → c.wp P R a w)
    (pass : ∀ a w, J a w → rest.wp P (Exit.jump l (fun a' w' => J a' w' ∧ μ a' w' < μ a w) Q) a w) : (Code.scope c).wp P Q a w :=
  wp_scope_jumps l J μ hf (pre _ fun a w h => Code.wp_mono (fun e a w he => by
    cases e with
    | goto l' => exact ⟨he.1, he.2.1⟩
    | _ => exact he) (pass a w h)) fun a w h => wp_seq (wp_skip (pass a w h))
/-- A number as it lies in a slot. -/
def intV : Value → Nat
  | .int _ x => x.toNat
  | _ => 0
/-- A slice's length. -/
def lenS : Value → Nat
  | .slice _ n _ => n
  | _ => 0
section
variable {w : World} {p : Nat} {Z : Nat → Prop} {L : List Int} {m : Option Nat} {fi la : Int}
theorem m_len (c : Lw w p m fi la) (o : Ol w m L) : Calls Try.prog 20 #[.pointer (some ⟨p, 0, none⟩)] w fun e w' => e = .returned (.int .i64 L.length) ∧ w' = w := by
  have c0 := c.c0
  have hl := fun ty => o.len ty
  clear c o
  go_enter Try.func20, Try.ntmps20
  go_wp2
  go_ret
  exact ⟨by simp, rfl⟩
theorem m_has (c : Lw w p m fi la) (o : Ol w m L) {k : Int} (hk : I64 k) : Calls Try.prog 16 #[.pointer (some ⟨p, 0, none⟩), .int .i64 k] w fun e w' => e = .returned (.bool (decide (k ∈ L))) ∧ w' = w := by
  have c0 := c.c0
  have hl := o.lookOk hk
  clear c o
  generalize decide (k ∈ L) = b at *
  generalize (lk L k).getD 0 = y at *
  go_enter Try.func16, Try.ntmps16
  go_wp2
  go_ret
  exact ⟨by simp, rfl⟩
theorem m_front (c : Lw w p m fi la) (o : Ol w m L) (he : L ≠ [] → fi = liF L) : Calls Try.prog 14 #[.pointer (some ⟨p, 0, none⟩)] w fun e w' => e = .returned (.int .i64 (liF L)) ∧ w' = w := by
  have H1 := hid (m_len c o)
  have c1 := c.c1
  clear c o
  cases L with
  | nil =>
    go_enter Try.func14, Try.ntmps14
    go_wp2_with fail
    refine H1.out.mono ?_
    rintro e w1 ⟨rfl, hw⟩
    obtain rfl := hw.symm
    go_wp2
    go_ret
    exact ⟨by simp [liF], rfl⟩
  | cons x r =>
    obtain rfl : x = fi := ((he (by simp)).symm : liF (x :: r) = fi)
    have hn : ((x :: r).length : Int) ≠ 0 := by simp; omega
    clear he
    generalize (x :: r).length = N at *
    go_enter Try.func14, Try.ntmps14
    go_wp2_with fail
    refine H1.out.mono ?_
    rintro e w1 ⟨rfl, hw⟩
    obtain rfl := hw.symm
    go_wp2
    go_ret
    exact ⟨by simp [liF], rfl⟩
set_option maxHeartbeats 4000000 in
set_option maxRecDepth 20000 in
theorem m_ahead (c : Lw w p m fi la) (o : Ol w m L) (ok : LiOk L) (hl : L.length ≤ 5000) (he : L ≠ [] → fi = liF L) {k : Int} (hk : k ∈ L) : Calls Try.prog 21 #[.pointer (some ⟨p, 0, none⟩), .int .i64 k] w fun e w' => (∃ pre post, L = pre ++ k :: post ∧ e = .returned (.int .i64 (liL pre))) ∧ Fr (fun _ => False) w w' := by
  have H1 : Hid (∀ w0, Fr (fun _ => False) w w0 → Calls Try.prog 20 #[.pointer (some ⟨p, 0, none⟩)] w0 fun e w' => e = .returned (.int .i64 L.length) ∧ w' = w0) := fun w0 f => m_len (c.carry f id) (o.carry f fun _ _ => id)
  have HC : Hid (∀ w0, Fr (fun _ => False) w w0 → w0.cell? ⟨p, 0, none⟩ = some (.map m)) := fun w0 f => (c.carry f id).c0
  have HL : Hid (∀ w0, Fr (fun _ => False) w w0 → ∀ x, I64 x → (Instr.lookup 41 (.map m) (.int .i64 x) false).run Try.prog w0 = .ok (.int .i64 ((lk L x).getD 0)) w0) := fun w0 f x hx => (o.carry f fun _ _ => id).look hx
  have HOK := hid ok
  obtain rfl : fi = liF L := he (fun e => by subst e; simp at hk)
  have c1 := c.c1
  have H0 : Hid (L = [] ++ L ∧ k ∈ L) := ⟨rfl, hk⟩
  clear c o ok he hk
  go_enter Try.func21, Try.ntmps21
  go_wp2
  refine wp_scope_back 0 (fun a' w' => ∃ (pre rest : List Int) (n : Nat) (b x : Int) (u8 u9 u10 u11 u12 u13 u14 u15 u16 u17 u18 u19 u20 u21 u22 u23 u24 u25 u26 u27 u28 u29 u30 : Value), Hid (L = pre ++ rest ∧ k ∈ rest ∧ b = liL pre ∧ x = liF rest ∧ n = rest.length ∧ Fr (fun _ => False) w w') ∧ a' = { tmps := #[.pointer (some ⟨p, 0, none⟩), .int .i64 k, undef, undef, .int .i64 0, .int .i64 b, .int .i64 x, .int .i64 n, u8, u9, u10, u11, u12, u13, u14, u15, u16, u17, u18, u19, u20, u21, u22, u23, u24, u25, u26, u27, u28, u29, u30], defers := [] }) (fun a' _ => intV (a'.tmps.getD 7 undef)) rfl ?pre ?pass
  case pre =>
    intro R hK
    go_wp2_with fail
    go_region_held3 (fun w' => w'.cell? ⟨p, 1, none⟩ = some (.int .i64 (liF L))) (first | go_keep | assumption) (first | (go_at_call 20; refine (H1.out _ (Fr.refl _ _).drew).mono ?_; rintro e w1 ⟨rfl, rfl⟩))
    go_wp2
    go_step3
    rename_i K hKK
    exact hKK _ _ (hK _ _ ⟨[], L, L.length, _, _, _, _, _, _, _, _, _, _, _, _, _, _, _, _, _, _, _, _, _, _, _, _, _, ⟨rfl, H0.out.2, rfl, rfl, rfl, (Fr.refl _ _).drew⟩, rfl⟩)
  case pass =>
    rintro a' wr ⟨pre, rest, n, b, x, u8, u9, u10, u11, u12, u13, u14, u15, u16, u17, u18, u19, u20, u21, u22, u23, u24, u25, u26, u27, u28, u29, u30, HI, rfl⟩
    clear c1 H0 H1
    obtain ⟨rfl, hk, hb, hx, hn, hf⟩ := HI.out
    cases rest with
    | nil => simp at hk
    | cons y r =>
      obtain rfl : x = y := hx
      have HF := hid hf
      have hnl : n ≤ 5000 := by subst hn; simp at hl ⊢; omega
      have hn0 : (n : Int) ≠ 0 := by subst hn; simp; omega
      by_cases e : x = k
      · subst e
        have HB := hid hb
        clear hb HI hn hk hf hl HL HC HOK
        go_wp2
        rw [jump_ret]
        go_ret
        exact ⟨⟨pre, r, rfl, by rw [← HB.out]; simp⟩, HF.out⟩
      · have hxk : (x == k) = false := by simp [e]
        have hxp : x ∉ pre := fun h => (List.nodup_append.1 HOK.out.nd).2.2 x h x (by simp) rfl
        have hl0 := HL.out wr.drew HF.out.drew x (by have := HOK.out.at_ x (by simp); exact ⟨by omega, this.2⟩)
        rw [lk_at hxp, Option.getD_some] at hl0
        have hc0 := HC.out wr.drew HF.out.drew
        have hkr : k ∈ r := by rcases List.mem_cons.1 hk with h | h; exact (e h.symm).elim; exact h
        have HN : Hid ((∃ (pre' rest' : List Int) (n' : Nat), pre ++ x :: r = pre' ++ rest' ∧ k ∈ rest' ∧ x = liL pre' ∧ liF r = liF rest' ∧ n' = rest'.length ∧ IntKind.i64.wrap ((n : Int) - 1) = n' ∧ n' < n)) := ⟨pre ++ [x], r, r.length, by simp, hkr, (liL_snoc _ _).symm, rfl, rfl, by rw [IntKind.wrap_i64]; subst hn; simp at hl ⊢; omega, by subst hn; simp⟩
        clear hb HI hn hk hf hl HL HC HOK hkr hxp e
        generalize liF r = z at *
        obtain ⟨pre', rest', n', e1, e2, e3, e4, e5, hw, hlt⟩ := HN.out
        have HE := hid (And.intro e1 (And.intro e2 (And.intro e3 (And.intro e4 e5))))
        clear e1 e2 e3 e4 e5 HN
        go_wp2_with fail
        go_region_held3 (fun w' => w'.cell? ⟨p, 0, none⟩ = some (.map m) ∧ (Instr.lookup 41 (.map m) (.int .i64 x) false).run Try.prog w' = .ok (.int .i64 z) w') (first | go_keep | exact ⟨by assumption, by assumption⟩) (fail)
        go_wp2
        go_step3
        exact ⟨rfl, ⟨pre', rest', n', _, _, _, _, _, _, _, _, _, _, _, _, _, _, _, _, _, _, _, _, _, _, _, _, _, ⟨HE.out.1, HE.out.2.1, HE.out.2.2.1, HE.out.2.2.2.1, HE.out.2.2.2.2, HF.out.drew⟩, rfl⟩, by simp [intV]; omega⟩
set_option maxHeartbeats 1000000 in
theorem m_clone (o : Ol w m L) : Calls Try.prog 22 #[.map m] w fun e w' => ∃ m', e = .returned (.map m') ∧ Ol w' m' L ∧ Fr (fun _ => False) w w' ∧ ∀ B, m' = some B → w.heap.size ≤ B ∧ B < w'.heap.size := by
  have hq := fun w => run_eql_map_nil_sl (P := Try.prog) w 41 _ _ m Try.underlying41
  rcases o with ⟨rfl, rfl⟩ | ⟨B, rfl, h⟩
  · go_enter Try.func22, Try.ntmps22
    go_wp2
    go_ret
    exact ⟨none, by simp, .inl ⟨rfl, rfl⟩, Fr.refl _ _, fun B e => by cases e⟩
  · obtain ⟨D, ⟨es, clock, hb, F, hs, hD⟩, h2⟩ := h
    have HR : Hid (Ol (w.alloc (.map es clock)) (some w.heap.size) L) := .inr ⟨w.heap.size, rfl, D, ⟨es, clock, (MapKept.heap_alloc w _).1, F, hs, hD⟩, h2⟩
    clear F hs hD h2
    go_enter Try.func22, Try.ntmps22
    go_wp2
    rw [run_callFunc_extern Try.func23 (by kernel_rfl) (by kernel_rfl) (by kernel_rfl) (e := Extern.MapsClone.clone) (by kernel_rfl), run_maps_clone_sl w 41 hb]
    simp only [Result.andThen]
    rw [Oper.upon_value]
    go_wp2
    rw [run_typeAssert_map_sl _ 41 _ _ _ _ Try.underlying41]
    simp only [Result.andThen]
    rw [Oper.upon_value]
    go_wp2
    go_ret
    exact ⟨some w.heap.size, by simp, HR.out, (Fr.refl _ _).alloc _, fun B e => by cases e; exact ⟨Nat.le_refl _, by simp⟩⟩
set_option maxHeartbeats 4000000 in
set_option maxRecDepth 20000 in
theorem m_all (c : Lw w p m fi la) (o : Ol w m L) (ok : LiOk L) (hl : L.length ≤ 5000) (he : L ≠ [] → fi = liF L) : Calls Try.prog 19 #[.pointer (some ⟨p, 0, none⟩)] w fun e w' => ∃ ad cap, e = .returned (.slice ad L.length cap) ∧ NumsAt w' ad L ∧ (∀ b off, ad = some ⟨b, off, none⟩ → w.heap.size ≤ b) ∧ Fr (fun _ => False) w w' := by
  have H1 : Hid (∀ w0, Fr (fun _ => False) w w0 → Calls Try.prog 20 #[.pointer (some ⟨p, 0, none⟩)] w0 fun e w' => e = .returned (.int .i64 L.length) ∧ w' = w0) := fun w0 f => m_len (c.carry f id) (o.carry f fun _ _ => id)
  have H2 := hid (m_front c o he)
  have HC : Hid (∀ w0, Fr (fun _ => False) w w0 → w0.cell? ⟨p, 0, none⟩ = some (.map m)) := fun w0 f => (c.carry f id).c0
  have HL : Hid (∀ w0, Fr (fun _ => False) w w0 → ∀ x, I64 x → (Instr.lookup 41 (.map m) (.int .i64 x) false).run Try.prog w0 = .ok (.int .i64 ((lk L x).getD 0)) w0) := fun w0 f x hx => (o.carry f fun _ _ => id).look hx
  have HOK := hid ok
  clear c o ok he
  go_enter Try.func19, Try.ntmps19
  go_wp2
  refine wp_scope_back 0 (fun a' w' => ∃ (pre rest : List Int) (x : Int) (y : Value) (u5 u6 u7 u8 u9 u10 u11 u12 u13 u14 u15 u16 u17 u18 u19 u20 u21 u22 : Value), Hid (L = pre ++ rest ∧ x = liF rest ∧ w'.ownsRow w.heap.size 3 1 y pre.length (ic pre) ∧ Fr (fun i => w.heap.size ≤ i) w w') ∧ a' = { tmps := #[.pointer (some ⟨p, 0, none⟩), undef, .slice none 0 0, y, .int .i64 x, u5, u6, u7, u8, u9, u10, u11, u12, u13, u14, u15, u16, u17, u18, u19, u20, u21, u22], defers := [] } ∧ lenS y = pre.length) (fun a' _ => L.length - lenS (a'.tmps.getD 3 undef)) rfl ?pre ?pass
  case pre =>
    intro R hK
    go_wp2_with fail
    refine H2.out.mono ?_
    rintro e w1 ⟨rfl, hw⟩
    obtain rfl := hw.symm
    clear H1 HC HL
    go_wp2
    go_step3
    rename_i K hKK
    exact hKK _ _ (hK _ _ ⟨[], L, _, _, _, _, _, _, _, _, _, _, _, _, _, _, _, _, _, _, _, _, ⟨rfl, rfl, ⟨rfl, .inl ⟨rfl, rfl⟩⟩, Fr.refl _ _⟩, rfl, rfl⟩)
  case pass =>
    rintro a' wr ⟨pre, rest, x, y, u5, u6, u7, u8, u9, u10, u11, u12, u13, u14, u15, u16, u17, u18, u19, u20, u21, u22, HI, rfl, hlen⟩
    clear H2
    obtain ⟨yad, ycap, hy, hyn, hyb⟩ := row_list HI.out.2.2.1
    subst hy
    have HYN := hid (And.intro hyn hyb)
    clear hyn hyb
    have HF := hid HI.out.2.2.2.new
    cases rest with
    | nil =>
      have e : L = pre := by rw [HI.out.1, List.append_nil]
      clear HC HL HOK HI
      subst e
      go_wp2_with fail
      refine (H1.out _ HF.out).mono ?_
      rintro e w1 ⟨rfl, hw⟩
      obtain rfl := hw.symm
      go_wp2
      rw [jump_ret]
      go_ret
      exact ⟨yad, ycap, by simp, HYN.out.1, HYN.out.2, HF.out⟩
    | cons z r =>
      obtain rfl : x = z := HI.out.2.1
      have hlr : (pre.length : Int) ≠ L.length := by rw [HI.out.1]; simp; omega
      have hlp : pre.length < L.length := by rw [HI.out.1]; simp
      have hlq : pre.length < 100000 := by omega
      have hxp : x ∉ pre := fun h => by
        have := HOK.out.nd
        rw [HI.out.1] at this
        exact (List.nodup_append.1 this).2.2 x h x (by simp) rfl
      have HLK : Hid (∀ w0, Fr (fun _ => False) w w0 → (Instr.lookup 41 (.map m) (.int .i64 x) false).run Try.prog w0 = .ok (.int .i64 (liF r)) w0) := fun w0 f => by
        have := HL.out w0 f x (by have := HOK.out.at_ x (by rw [HI.out.1]; simp); exact ⟨by omega, this.2⟩)
        rw [HI.out.1, lk_at hxp, Option.getD_some] at this
        exact this
      have HR := hid HI.out.2.2.1
      have HG := hid HI.out.2.2.2
      have HE : Hid (L = (pre ++ [x]) ++ r) := by show _ = _; rw [HI.out.1]; simp
      have hbs : w.heap.size ≤ wr.heap.size := HG.out.size
      clear HL HOK HI hlen hxp hl HYN
      generalize L.length = NL at *
      generalize hz : liF r = z at *
      have HZ := hid hz
      clear hz
      go_wp2_with fail
      refine (H1.out _ HF.out).mono ?_
      rintro e w1 ⟨rfl, hw⟩
      obtain rfl := hw.symm
      clear H1
      go_wp2_with (at_builtin; refine push1 rfl (.tmp 13) (.tmp 15) rfl w.heap.size _ _ x rfl (HR.out.alloc _) wr.heap.size rfl (by simp) hlq (by simp; omega) ?_)
      intro g cap w2 hown hg
      have HF2 : Hid (Fr (fun i => w.heap.size ≤ i) w w2) := Fr.grown (HG.out.alloc _) hg fun k e => .inl ((HR.out.lt k e).1)
      have HW := hid hown
      have hc0 := HC.out w2 HF2.out.new
      have hl0 := HLK.out w2 HF2.out.new
      clear hown hg HF HG HC HLK
      go_wp2
      go_step3
      exact ⟨rfl, ⟨pre ++ [x], r, _, _, _, _, _, _, _, _, _, _, _, _, _, _, _, _, _, _, _, _, ⟨HE.out, HZ.out.symm, by rw [List.length_append]; exact HW.out, HF2.out⟩, rfl, by simp [lenS]⟩, by simp [lenS]; omega⟩
end
end Go.Proofs.Ytecckdedijhacaa
